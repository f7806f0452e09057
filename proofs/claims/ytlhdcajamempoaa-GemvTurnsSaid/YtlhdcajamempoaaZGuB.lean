/-
GemvTurns: both products are the same whole numbers, exactly. Conditions: as each says.
-/
import Derived.Test.YtlhdcajamempoaaZGuA
import Derived.Test.YtlhdcajamempoaaZGvE
import Derived.Test.YtlhdcajamempoaaGv
import Derived.Laws.Cover2
set_option linter.unusedVariables false
set_option linter.unusedSimpArgs false
namespace Go.Proofs.Ytlhdcajamempoaa
open Go.RowKit

def exB (r : Nat) (z : Int) : Bool := decide (r < 18446744073709551616) && decide (Fl.rung r < Fl.INF) && decide (Fl.val r = z * (PK : Int))
theorem ex_of {r : Nat} {z : Int} (h : exB r z = true) : EX r z := by
  unfold exB at h
  simp only [Bool.and_eq_true, decide_eq_true_eq] at h
  exact ⟨h.1.1, h.1.2, h.2⟩
theorem all_words : (List.range 256).all (fun n => exB (floatOfInt .f64 ((n : Int) - 128)) ((n : Int) - 128)) = true := by decide +kernel
theorem int_word {z : Int} (h : -128 ≤ z ∧ z < 128) : EX (floatOfInt .f64 z) z := by
  have h1 := List.all_eq_true.1 all_words (z + 128).toNat (List.mem_range.2 (by omega))
  have e : (((z + 128).toNat : Nat) : Int) - 128 = z := by omega
  rw [e] at h1
  exact ex_of h1
/-- 2. -/
def TWOW : Nat := 4611686018427387904
theorem two_ex : EX TWOW 2 := ex_of (by decide +kernel)
theorem beg_zero {y s : Nat} (h : BegR 0 y s) : s = 0 := by
  unfold BegR at h
  rw [if_pos (by decide)] at h
  exact h
theorem turnQ_ex {l Ma v : List Nat} {R C : Nat} {A : Nat → Nat → Int} {X : Nat → Int} {q y : Nat} (hq : q < C) (hR : R ≤ 8) (hA : ∀ i, i < R → ∀ j, j < C → EX (Ma.getD (0 + i + j * R) 0) (A i j)) (hX : ∀ i, i < R → EX (v.getD i 0) (X i))
    (bP : ∀ i j, (A i j * X i).natAbs ≤ 16384) (h : TurnQ TWOW 0 l 0 1 Ma 0 R R v 0 1 q y) : EX y (2 * dotZ (fun i => A i q) X R) := by
  obtain ⟨s, hs, d, p, h1, h2, h3⟩ := h
  obtain rfl := beg_zero hs
  have hd : EX (dotF (lst Ma (0 + q * R) 1 R) (lst v 0 1 R) R) (dotZ (fun i => A i q) X R) := by
    refine EX.dot (B := 16384) (fun k => bP k q) (by omega) R (by omega) fun k hk => ⟨?_, ?_⟩
    · rw [lst_getD Ma _ _ hk, show 0 + q * R + k * 1 = 0 + k + q * R by omega]
      exact hA k hk q hq
    · rw [lst_getD v _ _ hk, show 0 + k * 1 = k by omega]
      exact hX k hk
  have hb := dotZ_le (fun i => A i q) X 16384 (fun k => bP k q) R
  have hb2 : R * 16384 ≤ 8 * 16384 := Nat.mul_le_mul_right _ hR
  have hp := two_ex.mul (hd.is_ h1) (by omega) h2
  have := EX.zero.add hp (by omega) h3
  rwa [Int.zero_add] at this
theorem chn_ex {Mb v : List Nat} {C : Nat} {A : Nat → Nat → Int} {X : Nat → Int} {q : Nat} (bP : ∀ i j, (A i j * X i).natAbs ≤ 16384) (bX : ∀ i, (X i).natAbs ≤ 128) : ∀ k, k ≤ 8 → ∀ z,
    (∀ i, i < k → EX (Mb.getD (0 + i * C + q) 0) (A i q) ∧ EX (v.getD (0 + i * 1) 0) (X i)) → Chn (ColS (MulR TWOW) Mb 0 C v 0 1 q) 0 k z → EX z (2 * dotZ (fun i => A i q) X k)
  | 0, _, z, _, h => by
    obtain rfl : z = 0 := h
    exact EX.zero
  | k + 1, hk, z, hE, h => by
    obtain ⟨s, hs, p, ⟨t, h1, h2⟩, h3⟩ := h
    have ih := chn_ex bP bX k (by omega) s (fun i hi => hE i (by omega)) hs
    obtain ⟨e1, e2⟩ := hE k (by omega)
    have hx := bX k
    have ha := bP k q
    have ht := two_ex.mul e2 (by omega) h1
    have e : 2 * X k * A k q = 2 * (A k q * X k) := by rw [Int.mul_assoc, Int.mul_comm (X k)]
    have hp := ht.mul e1 (by rw [e]; omega) h2
    rw [e] at hp
    have hb := dotZ_le (fun i => A i q) X 16384 (fun k => bP k q) (k + 1)
    have hb2 : (k + 1) * 16384 ≤ 8 * 16384 := Nat.mul_le_mul_right _ hk
    have e3 : 2 * dotZ (fun i => A i q) X k + 2 * (A k q * X k) = 2 * dotZ (fun i => A i q) X (k + 1) := by
      show _ = 2 * (dotZ (fun i => A i q) X k + A k q * X k)
      rw [Int.mul_add]
    have hz := ih.add hp (by rw [e3]; omega) h3
    rwa [e3] at hz
theorem mulQ_ex {l Mb v : List Nat} {R C : Nat} {A : Nat → Nat → Int} {X : Nat → Int} {q z : Nat} (hq : q < C) (hR : R ≤ 8) (hA : ∀ i, i < R → ∀ j, j < C → EX (Mb.getD (0 + j + i * C) 0) (A i j)) (hX : ∀ i, i < R → EX (v.getD i 0) (X i))
    (bP : ∀ i j, (A i j * X i).natAbs ≤ 16384) (bX : ∀ i, (X i).natAbs ≤ 128) (h : MulQ TWOW 0 l 0 1 Mb 0 R C v 0 1 q z) : EX z (2 * dotZ (fun i => A i q) X R) := by
  obtain ⟨s, hs, hc⟩ := h
  obtain rfl := beg_zero hs
  refine chn_ex (Mb := Mb) (C := C) bP bX R hR z (fun i hi => ⟨?_, ?_⟩) hc
  · rw [show 0 + i * C + q = 0 + q + i * C by omega]
    exact hA i hi q hq
  · rw [show 0 + i * 1 = i by omega]
    exact hX i hi
/-- Both are equal, as floats are. -/
theorem turns_eq {y z : Nat} {t : Int} (hy : EX y t) (hz : EX z t) : (FloatKind.f64.format.order y z != some .eq) = false := by
  have := hy.order hz
  simp only [bne, this]
  rfl
end Go.Proofs.Ytlhdcajamempoaa
