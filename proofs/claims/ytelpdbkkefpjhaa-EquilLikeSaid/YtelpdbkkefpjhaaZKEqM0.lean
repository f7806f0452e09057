/-
EquilLike: scaled to like sizes, pure. Conditions: as each says.
-/
import Derived.Test.YtelpdbkkefpjhaaWKr
import Derived.Test.YtelpdbkkefpjhaaZKEqF
set_option linter.unusedVariables false
set_option linter.unusedSimpArgs false
set_option linter.unnecessarySimpa false
namespace Go.Proofs.Ytelpdbkkefpjhaa
open Go.RowKit
attribute [local go_sem ↓] Go.wp_at_zero Go.wp_at_succ

theorem expOf_de {x : Nat} (h0 : Fl.rung x ≠ 0) (h1 : Fl.rung x < Fl.INF) : expOf x = Fl.de x + 52 := by
  rw [Fl.log_digits h0]
  unfold expOf
  rw [if_neg (by omega)]
theorem like_lt {x : Nat} {k : Int} (h0 : Fl.rung x ≠ 0) (h1 : Fl.rung x < Fl.INF) (hk : expOf x + k ≤ 0) : Fl.scl (Fl.mag (Fl.rung x)) k < 4611686018427387904 := by
  rw [Fl.scl_digits]
  have hd := Fl.dm_bounds h0
  rw [expOf_de h0 h1] at hk
  have hI := Fl.INF_val
  by_cases hq : 0 ≤ Fl.de x + 1074 + k
  · obtain ⟨q, hq2⟩ : ∃ q : Nat, Fl.de x + 1074 + k = q := ⟨(Fl.de x + 1074 + k).toNat, by omega⟩
    rw [hq2, Fl.scl_exact (Fl.dm x) q hd.2 (.inl hd.1)]
    have : Fl.cap (q * 4503599627370496 + Fl.dm x) ≤ q * 4503599627370496 + Fl.dm x := Nat.min_le_left _ _
    omega
  · obtain ⟨i, hi⟩ : ∃ i : Nat, Fl.de x + 1074 + k = ((0 : Nat) : Int) - (i : Int) := ⟨(-(Fl.de x + 1074 + k)).toNat, by omega⟩
    have hle : Fl.dm x / 2 ^ i ≤ Fl.dm x := Nat.div_le_self _ _
    rw [hi, Fl.scl_place (Fl.dm x) i 0 (by omega) (.inr rfl)]
    have h2 := (Fl.rne_le (Fl.dm x) i).2
    have : Fl.cap (0 * 4503599627370496 + Fl.rne (Fl.dm x) i) ≤ 0 * 4503599627370496 + Fl.rne (Fl.dm x) i := Nat.min_le_left _ _
    omega
theorem like_ge {x : Nat} {k : Int} (h0 : Fl.rung x ≠ 0) (h1 : Fl.rung x < Fl.INF) (hk : expOf x + k = 0) : 4607182418800017408 ≤ Fl.scl (Fl.mag (Fl.rung x)) k := by
  rw [Fl.scl_digits]
  have hd := Fl.dm_bounds h0
  rw [expOf_de h0 h1] at hk
  have hI := Fl.INF_val
  have hq2 : Fl.de x + 1074 + k = ((1022 : Nat) : Int) := by omega
  rw [hq2, Fl.scl_exact (Fl.dm x) 1022 hd.2 (.inl hd.1)]
  unfold Fl.cap
  omega
/-- Is one of the first k so? -/
def anyB (f : Nat → Bool) : Nat → Bool
  | 0 => false
  | k + 1 => anyB f k || f k
theorem anyB_of {f : Nat → Bool} {i : Nat} (h : f i = true) : ∀ {n : Nat}, i < n → anyB f n = true
  | 0, hi => by omega
  | n + 1, hi => by
    rw [anyB]
    by_cases e : i = n
    · rw [← e, h]; simp
    · rw [anyB_of h (n := n) (by omega)]; rfl
theorem anyB_next {f : Nat → Bool} {k : Nat} {b c : Bool} (h : anyB f k = b) (h2 : f k = c) : anyB f (k + 1) = (b || c) := by rw [anyB, h, h2]
/-- Is the number, without its sign, at least 1? -/
def geB (r : Nat) : Bool := decide (4607182418800017408 ≤ Fl.rung r)
theorem lss_two {x : Nat} (h : Fl.rung x < 4611686018427387904) : (FloatKind.f64.format.order (absW x) 4611686018427387904 == some .lt) = true := by
  have hr : Fl.rung (absW x) = Fl.rung x := by unfold Fl.rung absW; exact Nat.mod_mod _ _
  have hs : Fl.sg (absW x) = false := by
    unfold Fl.sg
    have := absW_lt x
    rw [Nat.div_eq_of_lt this]; rfl
  have hI := Fl.INF_val
  have h2 : Fl.rung 4611686018427387904 = 4611686018427387904 := by decide
  have h3 : Fl.sg 4611686018427387904 = false := by decide
  rw [Fl.lss_of (by omega) (by omega)]
  unfold Fl.key
  rw [hr, hs, h2, h3]
  simp
  omega
theorem geq_one {x : Nat} (h : Fl.rung x < 4611686018427387904) : ∃ p1 p2, (FloatKind.f64.format.order (absW x) 4607182418800017408 == some .gt) = p1 ∧ (FloatKind.f64.format.order (absW x) 4607182418800017408 == some .eq) = p2 ∧ (p1 || p2) = geB x := by
  have hr : Fl.rung (absW x) = Fl.rung x := by unfold Fl.rung absW; exact Nat.mod_mod _ _
  have hs : Fl.sg (absW x) = false := by
    unfold Fl.sg
    have := absW_lt x
    rw [Nat.div_eq_of_lt this]; rfl
  have hI := Fl.INF_val
  have h2 : Fl.rung 4607182418800017408 = 4607182418800017408 := by decide
  have h3 : Fl.sg 4607182418800017408 = false := by decide
  refine ⟨_, _, Fl.gtr_of (by omega) (by omega), Fl.eql_of (by omega) (by omega), ?_⟩
  unfold Fl.key geB
  rw [hr, hs, h2, h3]
  rw [Bool.eq_iff_iff]
  simp
  omega
theorem shfE_mid {r c : Int} (h1 : -3000 ≤ r ∧ r ≤ 3000) (h2 : -3000 ≤ c ∧ c ≤ 3000) : shfE r c = r + c := shfE_small (by omega) (by omega)
/-- The table scaled by its own exponents. -/
def own (X : Nat → Nat → Nat) (R C i j : Nat) : Nat := Fl.scale (X i j) (rE X C i + cE X R C j)
theorem own_scl {X : Nat → Nat → Nat} {R C i j : Nat} (hi : i < R) (hj : j < C) : sclX (cnt (rE X C) R) (cnt (cE X R C) C) X i j = own X R C i j := by
  unfold sclX own
  rw [cnt_getD _ hi, cnt_getD _ hj, shfE_mid (by have := rE_bound X C i; omega) (by have := cE_bound X R C j; omega)]
theorem fAt_cols {X : Nat → Nat → Nat} {R C : Nat} (h : fAt X R C = 0) : fb (cG X R (rE X C)) C = 0 := by
  unfold fAt at h
  split at h
  · omega
  · split at h <;> omega
theorem own_lt {X : Nat → Nat → Nat} {R C i j : Nat} (hf : ∀ i, i < R → ∀ j, j < C → Fl.fin (X i j) = true) (hA : fAt X R C = 0) (hi : i < R) (hj : j < C) : Fl.rung (own X R C i j) < 4611686018427387904 := by
  have h1 : Fl.rung (X i j) < Fl.INF := of_decide_eq_true (hf i hi j hj)
  unfold own
  by_cases h0 : Fl.rung (X i j) = 0
  · rw [scale_zero h0, h0]; omega
  · have hz : zB (X i j) = false := decide_eq_false h0
    have ht := (gst_top (fb_all (fAt_cols hA) j hj)).1 i hi hz
    rw [scale_ne h0 h1, Fl.rung_wd _ (by have := Fl.scl_le (Fl.mag (Fl.rung (X i j))) (rE X C i + cE X R C j); have := Fl.INF_val; omega)]
    refine like_lt h0 h1 ?_
    have e : cE X R C j = -(gst (fun i => zB (X i j)) (fun i => expOf (X i j) + rE X C i) R).1 := rfl
    omega
theorem own_ge {X : Nat → Nat → Nat} {R C j : Nat} (hf : ∀ i, i < R → ∀ j, j < C → Fl.fin (X i j) = true) (hA : fAt X R C = 0) (hj : j < C) : anyB (fun i => geB (own X R C i j)) R = true := by
  obtain ⟨i, hi, hz, he⟩ := (gst_top (fb_all (fAt_cols hA) j hj)).2
  have h0 : Fl.rung (X i j) ≠ 0 := of_decide_eq_false hz
  have h1 : Fl.rung (X i j) < Fl.INF := of_decide_eq_true (hf i hi j hj)
  refine anyB_of (i := i) ?_ hi
  unfold geB own
  rw [scale_ne h0 h1, Fl.rung_wd _ (by have := Fl.scl_le (Fl.mag (Fl.rung (X i j))) (rE X C i + cE X R C j); have := Fl.INF_val; omega)]
  refine decide_eq_true (like_ge h0 h1 ?_)
  have e : cE X R C j = -(gst (fun i => zB (X i j)) (fun i => expOf (X i j) + rE X C i) R).1 := rfl
  omega
end Go.Proofs.Ytelpdbkkefpjhaa
