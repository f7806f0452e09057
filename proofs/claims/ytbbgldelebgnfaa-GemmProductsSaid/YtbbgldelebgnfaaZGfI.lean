/-
GemmProducts, put together. Conditions: none.
-/
import Derived.Test.YtbbgldelebgnfaaZGfH
set_option linter.unusedVariables false
namespace Go.Proofs.Ytbbgldelebgnfaa
open Go.RowKit

theorem first_of (P : Nat → Bool) : ∀ n, (∃ p, p < n ∧ P p = true) → ∃ p, p < n ∧ P p = true ∧ ∀ i, i < p → P i = false
  | 0, ⟨p, h, _⟩ => by omega
  | n + 1, ⟨p, h, hp⟩ => by
    by_cases e : ∃ q, q < n ∧ P q = true
    · obtain ⟨q, h1, h2, h3⟩ := first_of P n e
      exact ⟨q, by omega, h2, h3⟩
    · have hn : ∀ i, i < n → P i = false := fun i hi => by
        cases hq : P i
        · rfl
        · exact (e ⟨i, hi, hq⟩).elim
      have : p = n := by
        rcases Nat.lt_or_ge p n with h | h
        · have := hn p h; rw [hp] at this; cases this
        · omega
      subst this
      exact ⟨p, by omega, hp, hn⟩
theorem none_of {P : Nat → Bool} {n : Nat} (h : ¬ ∃ p, p < n ∧ P p = true) : ∀ i, i < n → P i = false := fun i hi => by
  cases hq : P i
  · rfl
  · exact (h ⟨i, hi, hq⟩).elim
theorem gemmProducts_walk (A : Option Addr) (c : Nat) (L : List M5) (w : World) (hM : Ml w A L) (hLc : L.length ≤ c) (hOk : ∀ x ∈ L, x.Ok w) :
    Calls Try.prog 4 #[.slice A L.length c] w fun e w' => e = .returned (.bool true) ∧ Below w.heap.size w w' := by
  by_cases h6 : 6 < L.length
  · exact gproducts_six A _ c w h6
  rcases Nat.eq_zero_or_pos L.length with h0 | h0
  · rw [h0]
    exact gproducts_nil A c w
  obtain ⟨b, o, rfl, hC⟩ := hM.some h0
  have hk : ∀ i, i < L.length → (mL L i).Ok w := fun i hi => by rw [mL_eq hi]; exact hOk _ (List.getElem_mem hi)
  by_cases hg : ∃ p, p < L.length ∧ greatM (mL L p) = true
  · obtain ⟨p, h1, h2, h3⟩ := first_of (fun i => greatM (mL L i)) _ hg
    exact gproducts_great b o _ c L w hC rfl (by omega) h0 hLc hk p h1 h3 h2
  have hg1 := none_of (P := fun i => greatM (mL L i)) hg
  by_cases hb : ∃ p, p < L.length ∧ (!goodM (mL L p)) = true
  · obtain ⟨p, h1, h2, h3⟩ := first_of (fun i => !goodM (mL L i)) _ hb
    exact gproducts_bad b o _ c L w hC rfl (by omega) h0 hLc hk hg1 p h1 (fun i hi => by simpa using h3 i hi) (by simpa using h2)
  have hb1 : ∀ i, i < L.length → goodM (mL L i) = true := fun i hi => by simpa using none_of (P := fun i => !goodM (mL L i)) hb i hi
  have hs : ∀ i, i < L.length → mr L i ≤ 20 ∧ mk L i ≤ 20 ∧ (mL L i).l.length ≤ 1000 := fun i hi => by
    have h := hg1 i hi
    have h2 := good_nat (hb1 i hi)
    have h : greatB (mL L i).l.length (mL L i).r (mL L i).k = false := h
    unfold greatB at h
    rw [h2.2.1, h2.2.2.1] at h
    simp at h
    omega
  by_cases hm : ∃ p, p < L.length ∧ (decide (1 ≤ p) && (mk L (p - 1) != mr L p)) = true
  · obtain ⟨p, h1, h2, h3⟩ := first_of (fun p => decide (1 ≤ p) && (mk L (p - 1) != mr L p)) _ hm
    simp only [Bool.and_eq_true, decide_eq_true_eq, bne_iff_ne, ne_eq] at h2
    refine gproducts_size b o _ c L w hC rfl (by omega) h0 hLc hk hg1 hb1 (fun i hi => by have := hs i hi; omega) p h2.1 h1 (fun i h1 h4 => ?_) h2.2
    have := h3 i h4
    simpa [h1] using this
  · have hm1 := none_of (P := fun p => decide (1 ≤ p) && (mk L (p - 1) != mr L p)) hm
    exact gproducts_ok b o _ c L w hC rfl (by omega) h0 hLc hk hg1 hb1 hs (fun i h1 h4 => by simpa [h1] using hm1 i h4) _ _ rfl rfl
end Go.Proofs.Ytbbgldelebgnfaa
