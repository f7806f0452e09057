/-
The greatest of sizes of what isn't zero, line by line: pure. Conditions: as each says.
-/
import Derived.Test.YtelpdbkkefpjhaaWKc
import Derived.Test.YtelpdbkkefpjhaaWKg
set_option linter.unusedVariables false
namespace Go.Proofs.Ytelpdbkkefpjhaa
open Go.RowKit

/-- The greatest of the sizes s at the places before k where z is false, and whether there is one. -/
def gst (z : Nat → Bool) (s : Nat → Int) : Nat → Int × Bool
  | 0 => (0, false)
  | k + 1 => if z k = true then gst z s k else if (gst z s k).2 = true ∧ ¬ (gst z s k).1 < s k then gst z s k else (s k, true)
theorem gst_skip {z : Nat → Bool} {s : Nat → Int} {k : Nat} (h : z k = true) : gst z s (k + 1) = gst z s k := by rw [gst, if_pos h]
theorem gst_first {z : Nat → Bool} {s : Nat → Int} {k : Nat} {M : Int} (h : z k = false) (hg : gst z s k = (M, false)) : gst z s (k + 1) = (s k, true) := by
  rw [gst, if_neg (by rw [h]; decide), hg]; simp
theorem gst_take {z : Nat → Bool} {s : Nat → Int} {k : Nat} {M : Int} (h : z k = false) (hg : gst z s k = (M, true)) (hl : M < s k) : gst z s (k + 1) = (s k, true) := by
  rw [gst, if_neg (by rw [h]; decide), hg, if_neg (fun e => e.2 hl)]
theorem gst_keep {z : Nat → Bool} {s : Nat → Int} {k : Nat} {M : Int} (h : z k = false) (hg : gst z s k = (M, true)) (hl : ¬ M < s k) : gst z s (k + 1) = (M, true) := by
  rw [gst, if_neg (by rw [h]; decide), hg, if_pos ⟨rfl, hl⟩]
theorem gst_congr {z z' : Nat → Bool} {s s' : Nat → Int} : ∀ {n : Nat}, (∀ k, k < n → z k = z' k ∧ (z k = false → s k = s' k)) → gst z s n = gst z' s' n
  | 0, _ => rfl
  | n + 1, h => by
    have ih := gst_congr (n := n) (fun k hk => h k (by omega))
    obtain ⟨h1, h2⟩ := h n (by omega)
    rw [gst, gst, ih, ← h1]
    by_cases hz : z n = true
    · rw [if_pos hz, if_pos hz]
    · rw [if_neg hz, if_neg hz, h2 (by simpa using hz)]
theorem gst_bound {z : Nat → Bool} {s : Nat → Int} {B : Int} (hB : 0 ≤ B) : ∀ {n : Nat}, (∀ k, k < n → -B ≤ s k ∧ s k ≤ B) → -B ≤ (gst z s n).1 ∧ (gst z s n).1 ≤ B
  | 0, _ => by show -B ≤ 0 ∧ (0 : Int) ≤ B; omega
  | n + 1, h => by
    have ih := gst_bound (z := z) hB (n := n) (fun k hk => h k (by omega))
    have := h n (by omega)
    rw [gst]
    split
    · exact ih
    · split
      · exact ih
      · exact this
theorem gst_top {z : Nat → Bool} {s : Nat → Int} : ∀ {n : Nat}, (gst z s n).2 = true → (∀ k, k < n → z k = false → s k ≤ (gst z s n).1) ∧ ∃ k, k < n ∧ z k = false ∧ s k = (gst z s n).1
  | 0, h => by cases h
  | n + 1, h => by
    by_cases hz : z n = true
    · rw [gst_skip hz] at h ⊢
      obtain ⟨h1, k, h2, h3, h4⟩ := gst_top h
      refine ⟨fun j hj hzj => ?_, k, by omega, h3, h4⟩
      by_cases e : j = n
      · subst e; rw [hz] at hzj; cases hzj
      · exact h1 j (by omega) hzj
    · have hz' : z n = false := by simpa using hz
      obtain ⟨⟨M, b⟩, hg⟩ : ∃ p, gst z s n = p := ⟨_, rfl⟩
      cases b with
      | false =>
        have hno : ∀ {m : Nat}, (gst z s m).2 = false → ∀ j, j < m → z j = true := by
          intro m
          induction m with
          | zero => intro _ j hj; omega
          | succ m ih =>
            intro hm j hj
            rw [gst] at hm
            by_cases hzm : z m = true
            · rw [if_pos hzm] at hm
              by_cases e : j = m
              · subst e; exact hzm
              · exact ih hm j (by omega)
            · rw [if_neg hzm] at hm
              split at hm
              · rename_i hc; rw [hc.1] at hm; cases hm
              · cases hm
        rw [gst_first hz' hg]
        refine ⟨fun j hj hzj => ?_, n, by omega, hz', rfl⟩
        by_cases e : j = n
        · subst e; exact Int.le_refl _
        · have := hno (by rw [hg]) j (by omega)
          rw [this] at hzj; cases hzj
      | true =>
        have ih := gst_top (z := z) (s := s) (n := n) (by rw [hg])
        rw [hg] at ih
        obtain ⟨h1, k, h2, h3, h4⟩ := ih
        by_cases hl : M < s n
        · rw [gst_take hz' hg hl]
          refine ⟨fun j hj hzj => ?_, n, by omega, hz', rfl⟩
          by_cases e : j = n
          · subst e; exact Int.le_refl _
          · have := h1 j (by omega) hzj
            simp only at this ⊢
            omega
        · rw [gst_keep hz' hg hl]
          refine ⟨fun j hj hzj => ?_, k, by omega, h3, h4⟩
          by_cases e : j = n
          · subst e; simp only; omega
          · exact h1 j (by omega) hzj

/-- The number, from 1 on, of the first line that has nothing, or 0. -/
def fb (g : Nat → Int × Bool) : Nat → Nat
  | 0 => 0
  | k + 1 => if fb g k = 0 then (if (g k).2 = true then 0 else k + 1) else fb g k
theorem fb_next {g : Nat → Int × Bool} {k : Nat} (h : fb g k = 0) (h2 : (g k).2 = true) : fb g (k + 1) = 0 := by rw [fb, if_pos h, if_pos h2]
theorem fb_stop {g : Nat → Int × Bool} {k : Nat} (h : fb g k = 0) (h2 : (g k).2 = false) : ∀ {n : Nat}, k < n → fb g n = k + 1
  | 0, hk => by omega
  | n + 1, hk => by
    rw [fb]
    by_cases e : k = n
    · subst e; rw [if_pos h, if_neg (by rw [h2]; decide)]
    · rw [fb_stop h h2 (n := n) (by omega), if_neg (by omega)]
theorem fb_all {g : Nat → Int × Bool} : ∀ {n : Nat}, fb g n = 0 → ∀ k, k < n → (g k).2 = true
  | 0, _, k, hk => by omega
  | n + 1, h, k, hk => by
    rw [fb] at h
    by_cases h0 : fb g n = 0
    · rw [if_pos h0] at h
      by_cases h1 : (g n).2 = true
      · by_cases e : k = n
        · subst e; exact h1
        · exact fb_all h0 k (by omega)
      · rw [if_neg h1] at h; omega
    · rw [if_neg h0] at h; exact absurd h h0
theorem fb_le (g : Nat → Int × Bool) : ∀ n, fb g n ≤ n
  | 0 => Nat.le_refl _
  | n + 1 => by
    have := fb_le g n
    rw [fb]
    split
    · split <;> omega
    · omega
/-- Minus the greatest. -/
def ngs (g : Nat → Int × Bool) (k : Nat) : Int := -(g k).1
theorem eq_res4 {fn : Func} {t u v x : Tmp} (h : fn.results = #[.tmp t, .tmp u, .tmp v, .tmp x]) (tmps : Array Value) (P : Program) (w : World) :
    (results fn tmps).run P w = .ok (.tuple #[tmps.getD t undef, tmps.getD u undef, tmps.getD v undef, tmps.getD x undef]) w := by
  simp [results, h]
/-- Is the number zero? -/
def zB (b : Nat) : Bool := decide (Fl.rung b = 0)
theorem expOf_bounds (b : Nat) : -1074 ≤ expOf b ∧ expOf b ≤ 1023 := by
  unfold expOf
  split
  · omega
  · rename_i h
    have h1 : Fl.rung b ≠ 0 := fun e => h (.inl e)
    have h2 : Fl.rung b < Fl.INF := by
      rcases Nat.lt_or_ge (Fl.rung b) Fl.INF with h3 | h3
      · exact h3
      · exact absurd (.inr h3) h
    have h3 := Fl.pe_lt h2
    have h4 := Fl.pm_lt b
    have h5 : Fl.pm b ≠ 0 := by
      intro e
      have := Fl.rung_parts b
      rcases Fl.pm_pe b with h6 | h6
      · omega
      · rw [e, h6] at this; omega
    have h6 : (Fl.pm b).log2 < 53 := (Nat.log2_lt h5).2 h4
    omega
/-- What a row, a column of the table X has. -/
def rG (X : Nat → Nat → Nat) (C i : Nat) : Int × Bool := gst (fun j => zB (X i j)) (fun j => expOf (X i j)) C
def cG (X : Nat → Nat → Nat) (R : Nat) (r : Nat → Int) (j : Nat) : Int × Bool := gst (fun i => zB (X i j)) (fun i => expOf (X i j) + r i) R
theorem rG_bound (X : Nat → Nat → Nat) (C i : Nat) : -1074 ≤ (rG X C i).1 ∧ (rG X C i).1 ≤ 1074 :=
  gst_bound (B := 1074) (by omega) (fun k _ => by have := expOf_bounds (X i k); omega)
theorem cG_bound (X : Nat → Nat → Nat) (R : Nat) (r : Nat → Int) (j : Nat) (h : ∀ i, i < R → -1074 ≤ r i ∧ r i ≤ 1074) : -2148 ≤ (cG X R r j).1 ∧ (cG X R r j).1 ≤ 2148 :=
  gst_bound (B := 2148) (by omega) (fun k hk => by have := expOf_bounds (X k j); have := h k hk; omega)
/-- The exponents, and the number of what is empty. -/
def rE (X : Nat → Nat → Nat) (C : Nat) : Nat → Int := ngs (rG X C)
def cE (X : Nat → Nat → Nat) (R C : Nat) : Nat → Int := ngs (cG X R (rE X C))
def fAt (X : Nat → Nat → Nat) (R C : Nat) : Nat := if fb (rG X C) R ≠ 0 then fb (rG X C) R else if fb (cG X R (rE X C)) C ≠ 0 then R + fb (cG X R (rE X C)) C else 0
theorem rE_bound (X : Nat → Nat → Nat) (C i : Nat) : -1074 ≤ rE X C i ∧ rE X C i ≤ 1074 := by
  have := rG_bound X C i
  unfold rE ngs
  omega
theorem cE_bound (X : Nat → Nat → Nat) (R C j : Nat) : -2148 ≤ cE X R C j ∧ cE X R C j ≤ 2148 := by
  have := cG_bound X R (rE X C) j (fun i _ => rE_bound X C i)
  unfold cE ngs
  omega
end Go.Proofs.Ytelpdbkkefpjhaa
