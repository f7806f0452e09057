/-
Products block by block: what comes to a number; where blocks begin. Conditions: as each says.
-/
import Derived.Test.YtbeefnekblepfaaZGvY
import Derived.Test.YtbeefnekblepfaaUaak
import Derived.Test.YtbeefnekblepfaaUbab
import Derived.Test.YtbeefnekblepfaaUbaa
set_option linter.unusedVariables false
set_option linter.unusedSimpArgs false
set_option linter.unnecessarySimpa false
namespace Go.Proofs.Ytbeefnekblepfaa
open Go.RowKit

/-- One times a number is the number, infinities too. -/
theorem bk_one {y : Nat} (hy : y < 18446744073709551616) (hn : Fl.nan y = false) : Ieee.double.mul 4607182418800017408 y = some y := by
  obtain ⟨O, hO⟩ : ∃ O, 4607182418800017408 = O := ⟨_, rfl⟩
  have e0 : Fl.rung O < Fl.INF := by rw [← hO]; decide
  have e1 : Fl.rung O = 4607182418800017408 := by rw [← hO]; decide
  have e2 : Fl.sg O = false := by rw [← hO]; decide
  obtain ⟨k, hk⟩ : ∃ k, k = 1074 := ⟨_, rfl⟩
  have e3 : Fl.mag (Fl.rung O) = 2 ^ k := by
    have e4 : 4607182418800017408 / 4503599627370496 - 1 = 1022 := by decide
    have e5 : 4503599627370496 + 4607182418800017408 % 4503599627370496 = 2 ^ 52 := by decide
    obtain ⟨j, hj⟩ : ∃ j, 4607182418800017408 / 4503599627370496 - 1 = j := ⟨_, rfl⟩
    rw [e1]
    unfold Fl.mag
    rw [if_neg (by omega), hj, e5, ← Nat.pow_add, show 52 + j = k by omega]
  rw [hO]
  rcases Nat.lt_trichotomy (Fl.rung y) Fl.INF with h | h | h
  · rw [Fl.mul_fin e0 h, e2, e3, ← hk, Nat.mul_comm]
    have e6 : Fl.rnd (Fl.mag (Fl.rung y) * 2 ^ k) k = Fl.rnd (Fl.mag (Fl.rung y)) 0 := by
      have := Fl.rnd_shift (Fl.mag (Fl.rung y)) 0 k
      rw [Nat.zero_add] at this
      exact this
    have e7 := Fl.scl_self h
    rw [Fl.scl_whole] at e7
    rw [e6, e7, Bool.false_xor, Fl.wd_parts hy]
  · obtain ⟨m, u, e, hm⟩ := Fl.read_fin e0
    have hm0 : ¬ m = 0 := fun e => by
      rw [e3, e, Nat.zero_mul] at hm
      have := Nat.two_pow_pos k
      omega
    unfold Ieee.Format.mul
    rw [e, Fl.read_inf h, e2]
    simp only [Ieee.Datum.product]
    rw [if_neg hm0]
    simp only [Option.map_some, Bool.false_xor, Bool.xor_false, Option.some.injEq]
    show Ieee.double.word (Fl.sg y) Ieee.double.infRung = y
    rw [Fl.dbl_word, Fl.dbl_inf, ← h, Fl.wd_parts hy]
  · exfalso
    have h2 : Fl.nan y = true := decide_eq_true h
    rw [hn] at h2
    cases h2
theorem bk_is_one {y : Nat} (hy : y < 18446744073709551616) : Is (fbin .mul 4607182418800017408 y) y := by
  refine ⟨fbin_lt _ _ _, ?_⟩
  cases hn : Fl.nan y
  · left
    have h : floatBits .mul .f64 4607182418800017408 y = some y := bk_one hy hn
    unfold fbin
    rw [h]; rfl
  · right
    have h : floatBits .mul .f64 4607182418800017408 y = none := fbin_nan_right hn
    unfold fbin
    rw [h]
    exact ⟨nanw_nan, rfl⟩
theorem bk_beg {y : Nat} (hy : y < 18446744073709551616) : Is (begF 4607182418800017408 y) y := by
  unfold begF
  rw [if_neg (by decide)]
  exact bk_is_one hy
theorem bk_comes (op : BinOp) (x y : Nat) : Comes op x y (fbin op x y) := by
  unfold fbin Comes
  cases h : floatBits op .f64 x y with
  | some r => exact ⟨fbits_lt h, .inl rfl⟩
  | none => exact ⟨nanw_lt, .inr ⟨rfl, nanw_nan⟩⟩
theorem chnF_is {z z' : Nat} (h : Is z z') {f : Nat → Nat} (hf : ∀ k, f k < 18446744073709551616) : ∀ k, Is (chnF z f k) (chnF z' f k)
  | 0 => h
  | k + 1 => (bk_comes .add (chnF z f k) (f k)).is_ (chnF_is h hf k) (Is.refl (hf k))
theorem chnF_add (z : Nat) (f : Nat → Nat) (k : Nat) : ∀ m, chnF z f (k + m) = chnF (chnF z f k) (fun j => f (k + j)) m
  | 0 => rfl
  | m + 1 => by
    show fbin .add (chnF z f (k + m)) (f (k + m)) = fbin .add _ _
    rw [chnF_add z f k m]
/-- The number that comes of z, of x's row f and y's column g, up to k of what is summed over. -/
def bkF (a b z : Nat) (f g : Nat → Nat) (k : Nat) : Nat := chnF (begF b z) (fun k => fbin .mul (fbin .mul a (g k)) (f k)) k
theorem bkF_step {a b z r0 r k0 n : Nat} {f g : Nat → Nat} (h0 : Is r0 (bkF a b z f g k0)) (h : Is r (bkF a 4607182418800017408 r0 (fun k => f (k0 + k)) (fun k => g (k0 + k)) n)) : Is r (bkF a b z f g (k0 + n)) := by
  refine h.trans ?_
  unfold bkF
  rw [chnF_add]
  exact chnF_is ((bk_beg h0.lt).trans h0) (fun _ => fbin_lt _ _ _) n
/-- What each number is, when kd of what is summed over are done there. -/
def BkP (a b : Nat) (l : List Nat) (o L : Nat) (f g : Nat → Nat → Nat) (kd : Nat → Nat → Nat) (i j r : Nat) : Prop := Is r (bkF a b (l.getD (o + i + j * L) 0) (f i) (g j) (kd i j))
theorem BkP.lt {a b : Nat} {l : List Nat} {o L : Nat} {f g : Nat → Nat → Nat} {kd : Nat → Nat → Nat} {i j r : Nat} (h : BkP a b l o L f g kd i j r) : r < 18446744073709551616 := h.1
/-- What a part's numbers come to. -/
def BkQ (a b : Nat) (l : List Nat) (o L : Nat) (f g : Nat → Nat → Nat) (i0 j0 k0 n : Nat) (i j r : Nat) : Prop := Is r (bkF a b (l.getD (o + i + j * L) 0) (fun k => f (i0 + i) (k0 + k)) (fun k => g (j0 + j) (k0 + k)) n)
theorem Imr.congr {l : List Nat} {o R C L : Nat} {P Q : Nat → Nat → Nat → Prop} {l' : List Nat} (h : Imr l o R C L P l') (hpq : ∀ i, i < R → ∀ j, j < C → ∀ r, P i j r → Q i j r) : Imr l o R C L Q l' :=
  ⟨h.1, fun i hi j hj => hpq i hi j hj _ (h.2.1 i hi j hj), h.2.2⟩
theorem bk_kd {a b : Nat} {l lj : List Nat} {o R C L : Nat} {f g : Nat → Nat → Nat} {kd kd' : Nat → Nat → Nat} (h : Imr l o R C L (BkP a b l o L f g kd) lj) (hk : ∀ i, i < R → ∀ j, j < C → kd' i j = kd i j) : Imr l o R C L (BkP a b l o L f g kd') lj :=
  h.congr fun i hi j hj r hr => by
    show Is r (bkF a b _ _ _ (kd' i j))
    rw [hk i hi j hj]
    exact hr
theorem bk_part {a b : Nat} {l lj l' : List Nat} {o R C L i0 j0 k0 n rn cn : Nat} {f g : Nat → Nat → Nat} {kd kd' : Nat → Nat → Nat} (h : Imr l o R C L (BkP a b l o L f g kd) lj) (hRL : R ≤ L) (hi0 : i0 + rn ≤ R) (hj0 : j0 + cn ≤ C)
    (h2 : Imr lj (o + i0 + j0 * L) rn cn L (BkQ a 4607182418800017408 lj (o + i0 + j0 * L) L f g i0 j0 k0 n) l') (hk : ∀ i, i < rn → ∀ j, j < cn → kd (i0 + i) (j0 + j) = k0) (hk2 : ∀ i, i < rn → ∀ j, j < cn → kd' (i0 + i) (j0 + j) = k0 + n)
    (hk3 : ∀ i, i < R → ∀ j, j < C → ¬ ((i0 ≤ i ∧ i < i0 + rn) ∧ j0 ≤ j ∧ j < j0 + cn) → kd' i j = kd i j) : Imr l o R C L (BkP a b l o L f g kd') l' := by
  have hp : ∀ i' j' : Nat, o + i0 + j0 * L + i' + j' * L = o + (i0 + i') + (j0 + j') * L := fun i' j' => by rw [Nat.add_mul]; omega
  refine ⟨h2.1.trans h.1, fun i hi j hj => ?_, fun x hx => ?_⟩
  · by_cases e : (i0 ≤ i ∧ i < i0 + rn) ∧ j0 ≤ j ∧ j < j0 + cn
    · obtain ⟨i', rfl⟩ : ∃ i', i = i0 + i' := ⟨i - i0, by omega⟩
      obtain ⟨j', rfl⟩ : ∃ j', j = j0 + j' := ⟨j - j0, by omega⟩
      have h3 := h2.2.1 i' (by omega) j' (by omega)
      have h4 := h.2.1 (i0 + i') hi (j0 + j') hj
      rw [hp] at h3
      unfold BkP at h4 ⊢
      rw [hk i' (by omega) j' (by omega)] at h4
      rw [hk2 i' (by omega) j' (by omega)]
      unfold BkQ at h3
      rw [hp] at h3
      exact bkF_step h4 h3
    · have h3 := h2.2.2 (o + i + j * L) (fun a' ha b' hb e2 => e (by
        rw [hp] at e2
        have := spots_inj (L := L) (a := i) (b := j) (a' := i0 + a') (b' := j0 + b') (by omega) (by omega) (by omega)
        omega))
      unfold BkP
      rw [h3, hk3 i hi j hj e]
      exact h.2.1 i hi j hj
  · rw [h2.2.2 x (fun a' ha b' hb e2 => by
      rw [hp] at e2
      exact hx (i0 + a') (by omega) (j0 + b') (by omega) e2)]
    exact h.2.2 x hx
/-- How many are done at a number: in the columns ahead all; in these columns in the rows ahead all, in these rows s. -/
def kdF (c c' r r' s K : Nat) (i j : Nat) : Nat := if j < c then K else if j < c' then (if i < r then K else if i < r' then s else 0) else 0
theorem kdF_same {c r r' s K : Nat} (i j : Nat) : kdF c c r r' s K i j = if j < c then K else 0 := by
  unfold kdF
  by_cases h : j < c
  · rw [if_pos h, if_pos h]
  · rw [if_neg h, if_neg h, if_neg h]
theorem kdF_row {c c' r s K : Nat} (i j : Nat) : kdF c c' r r s K i j = if j < c then K else if j < c' then (if i < r then K else 0) else 0 := by
  unfold kdF
  by_cases h : i < r
  · simp [h]
  · simp [h]
/-- Where block i begins. -/
def bs (C : List Int) (i : Nat) : Nat := (C.getD i 0).toNat
/-- N places, cut into m blocks. -/
structure CutF (C : List Int) (m N : Nat) : Prop where
  zero : bs C 0 = 0
  last : bs C m = N
  cell : ∀ i, C.getD i 0 = (bs C i : Int)
  lt : ∀ i, i < m → bs C i < bs C (i + 1)
  le : ∀ i, bs C i ≤ N
theorem CutF.none : CutF [] 0 0 := ⟨rfl, rfl, fun i => by simp [bs], fun i h => by omega, fun i => by simp [bs]⟩
theorem CutF.ok {N S : Nat} (l : List Int) (hN : 1 ≤ N) : CutF (cuts N S l) ((cuts N S l).length - 1) N := by
  have hc : ∀ i, 0 ≤ (cuts N S l).getD i 0 ∧ (cuts N S l).getD i 0 ≤ N := fun i => cuts_in N i
  have he := cuts_end (S := S) (l := l) hN
  have hr : (cuts N S l).Pairwise (· < ·) := cutsTo_rising N
  have hz : (cuts N S l).getD 0 0 = 0 := cutsTo_zero N
  obtain ⟨h1, h2⟩ := he
  refine ⟨by unfold bs; rw [hz]; rfl, ?_, fun i => ?_, fun i hi => ?_, fun i => ?_⟩
  · have h3 : (cuts N S l).getD ((cuts N S l).length - 1) 0 = N := h1
    unfold bs
    rw [h3]; rfl
  · have := hc i
    unfold bs
    omega
  · have h3 := List.pairwise_iff_getElem.1 hr i (i + 1) (by omega) (by omega) (by omega)
    have h4 := hc i
    have h5 := hc (i + 1)
    unfold bs
    rw [List.getD_eq_getElem?_getD, List.getElem?_eq_getElem (by omega)] at h4 ⊢
    rw [List.getD_eq_getElem?_getD, List.getElem?_eq_getElem (by omega)] at h5 ⊢
    simp only [Option.getD_some] at h4 h5 ⊢
    omega
  · have := hc i
    unfold bs
    omega
theorem CutF.dd {C : List Int} {m N i : Nat} (h : CutF C m N) (hi : i < m) : C.getD (i + 1) 0 - C.getD i 0 = ((bs C (i + 1) - bs C i : Nat) : Int) := by
  have := h.lt i hi
  rw [h.cell, h.cell]
  omega
end Go.Proofs.Ytbeefnekblepfaa
