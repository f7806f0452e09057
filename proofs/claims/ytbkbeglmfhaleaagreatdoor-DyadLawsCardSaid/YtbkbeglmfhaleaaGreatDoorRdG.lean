/-
Digits at their places, pure: sums of them, carries and borrows. Conditions: as each says.
-/
import Derived.Test.YtbkbeglmfhaleaaGreatDoorRdA
set_option linter.unusedVariables false
namespace Go.Proofs.YtbkbeglmfhaleaaGreatDoor
open Go.RowKit

/-- The digit of a place. -/
def dat (l : List Nat) (E p : Int) : Nat := if p < E ∨ E + l.length ≤ p then 0 else l.getD (p - E).toNat 0
theorem dat_lt {l : List Nat} (h : Digs 65536 l) (E p : Int) : dat l E p < 65536 := by
  unfold dat
  split
  · omega
  · rename_i h1
    have hl : (p - E).toNat < l.length := by omega
    rw [show l.getD (p - E).toNat 0 = l[(p - E).toNat] by simp [List.getD, hl]]
    exact h.get _ hl
theorem dat_nil (E p : Int) : dat [] E p = 0 := by unfold dat; split <;> rfl
/-- The number that the digits of the places from 'fr' on make. -/
def dsum (l : List Nat) (E fr : Int) : Nat → Nat
  | 0 => 0
  | q + 1 => dsum l E fr q + 65536 ^ q * dat l E (fr + q)
theorem dsum_nil (E fr : Int) : ∀ q, dsum [] E fr q = 0
  | 0 => rfl
  | q + 1 => by rw [dsum, dsum_nil E fr q, dat_nil]; simp
theorem dsum_low {l : List Nat} {E fr : Int} {a : Nat} (ha : fr + a = E) : ∀ q, q ≤ a → dsum l E fr q = 0
  | 0, _ => rfl
  | q + 1, h => by
    rw [dsum, dsum_low ha q (by omega)]
    have : dat l E (fr + q) = 0 := by unfold dat; rw [if_pos (.inl (by omega))]
    rw [this]; simp
theorem dsum_mid {l : List Nat} {E fr : Int} {a : Nat} (ha : fr + a = E) : ∀ t, t ≤ l.length → dsum l E fr (a + t) = 65536 ^ a * ofd 65536 (l.take t)
  | 0, _ => by rw [Nat.add_zero, dsum_low ha a (Nat.le_refl _), List.take_zero]; simp [ofd]
  | t + 1, h => by
    rw [show a + (t + 1) = a + t + 1 by omega, dsum, dsum_mid ha t (by omega), ofd_take_succ _ _ _ (by omega)]
    have : dat l E (fr + ((a + t : Nat) : Int)) = l[t]'(by omega) := by
      unfold dat
      rw [if_neg (by omega), show (fr + ((a + t : Nat) : Int) - E).toNat = t by omega]
      simp [List.getD, show t < l.length by omega]
    rw [this, Nat.mul_add, Nat.pow_add, Nat.mul_assoc]
theorem dsum_all {l : List Nat} {E fr : Int} {a : Nat} (ha : fr + a = E) : ∀ t, l.length ≤ t → dsum l E fr (a + t) = 65536 ^ a * ofd 65536 l
  | t, h => by
    induction t with
    | zero =>
      have : l = [] := List.eq_nil_of_length_eq_zero (by omega)
      subst this
      rw [dsum_nil]; simp [ofd]
    | succ t ih =>
      by_cases h1 : l.length = t + 1
      · rw [dsum_mid ha (t + 1) (by omega), List.take_of_length_le (by omega)]
      · rw [show a + (t + 1) = a + t + 1 by omega, dsum, ih (by omega)]
        have : dat l E (fr + ((a + t : Nat) : Int)) = 0 := by unfold dat; rw [if_pos (.inr (by omega))]
        rw [this]; simp
theorem dsum_lt {l : List Nat} (h : Digs 65536 l) (E fr : Int) : ∀ q, dsum l E fr q < 65536 ^ q
  | 0 => by simp [dsum]
  | q + 1 => by
    have h1 := dsum_lt h E fr q
    have h2 := dat_lt h E (fr + q)
    rw [dsum, Nat.pow_succ]
    have : 65536 ^ q * (dat l E (fr + q) + 1) ≤ 65536 ^ q * 65536 := Nat.mul_le_mul_left _ h2
    rw [Nat.mul_add] at this
    omega
theorem pow16 (a : Nat) : 65536 ^ a = 2 ^ (16 * a) := by rw [show 65536 = 2 ^ 16 by decide, ← Nat.pow_mul]
/-- The sign laid on. -/
def sgd (neg : Bool) (m : Nat) : Int := if neg then -(m : Int) else (m : Int)
theorem rdy_sgd (neg : Bool) (l : List Nat) (E : Int) : rdy neg l E = dy (sgd neg (ofd 65536 l)) (16 * E) := by unfold rdy sgd; rfl
theorem rdy_from (neg : Bool) (l : List Nat) {E fr : Int} {a : Nat} (ha : fr + a = E) : rdy neg l E = dy (sgd neg (65536 ^ a * ofd 65536 l)) (16 * fr) := by
  rw [rdy_sgd, ← ha, show 16 * (fr + a) = 16 * fr + ((16 * a : Nat) : Int) by omega, ← dy_pow, pow16]
  congr 1
  unfold sgd
  have e : ((2 ^ (16 * a) : Nat) : Int) = (2 : Int) ^ (16 * a) := by simp
  cases neg
  · simp only [Bool.false_eq_true, if_false]; rw [Int.natCast_mul, e, Int.mul_comm]
  · simp only [if_true]; rw [Int.natCast_mul, e, Int.neg_mul, Int.mul_comm]
/-- From where on, up to where. -/
def endsF (n1 : Nat) (E1 : Int) (n2 : Nat) (E2 : Int) : Int × Int :=
  if n1 = 0 then (E2, E2 + n2) else if n2 = 0 then (E1, E1 + n1) else (min E1 E2, max (E1 + n1) (E2 + n2))
theorem ends_ok {n1 n2 : Nat} {E1 E2 fr tz : Int} (h : endsF n1 E1 n2 E2 = (fr, tz)) : (n1 = 0 ∨ (fr ≤ E1 ∧ E1 + n1 ≤ tz)) ∧ (n2 = 0 ∨ (fr ≤ E2 ∧ E2 + n2 ≤ tz)) ∧ fr ≤ tz := by
  unfold endsF at h
  split at h
  · injection h with h1 h2; omega
  · split at h
    · injection h with h1 h2; omega
    · injection h with h1 h2; omega
/-- All digits counted: the number itself. -/
theorem dsum_val {l : List Nat} {E fr tz : Int} {N : Nat} (h : l.length = 0 ∨ (fr ≤ E ∧ E + l.length ≤ tz)) (hN : fr + N = tz) (neg : Bool) : rdy neg l E = dy (sgd neg (dsum l E fr N)) (16 * fr) := by
  rcases h with h | ⟨h1, h2⟩
  · have : l = [] := List.eq_nil_of_length_eq_zero h
    subst this
    rw [rdy_nil, dsum_nil]
    cases neg <;> rfl
  · obtain ⟨a, ha⟩ : ∃ a : Nat, fr + a = E := ⟨(E - fr).toNat, by omega⟩
    obtain ⟨t, ht⟩ : ∃ t : Nat, a + t = N := ⟨N - a, by omega⟩
    rw [rdy_from neg l ha, ← ht, dsum_all ha t (by omega)]

/-! ### Carries. -/
theorem carry_step {q c x y s1 s2 : Nat} {L : List Nat} (hl : L.length = q) (h : ofd 65536 L + 65536 ^ q * c = s1 + s2) : ofd 65536 (L ++ [(c + x + y) % 65536]) + 65536 ^ (q + 1) * ((c + x + y) / 65536) = s1 + 65536 ^ q * x + (s2 + 65536 ^ q * y) := by
  rw [ofd_snoc, hl, Nat.pow_succ, Nat.mul_assoc]
  have e : (c + x + y) % 65536 + 65536 * ((c + x + y) / 65536) = c + x + y := Nat.mod_add_div _ _
  have : 65536 ^ q * ((c + x + y) % 65536) + 65536 ^ q * (65536 * ((c + x + y) / 65536)) = 65536 ^ q * (c + x + y) := by rw [← Nat.mul_add, e]
  rw [Nat.mul_add, Nat.mul_add] at this
  omega
theorem borrow_none {q b x y s1 s2 : Nat} {L : List Nat} (hl : L.length = q) (h : ofd 65536 L + s2 = s1 + 65536 ^ q * b) (hb : y + b ≤ x) : ofd 65536 (L ++ [x - y - b]) + (s2 + 65536 ^ q * y) = s1 + 65536 ^ q * x + 65536 ^ (q + 1) * 0 := by
  rw [ofd_snoc, hl]
  have : 65536 ^ q * (x - y - b) + 65536 ^ q * y + 65536 ^ q * b = 65536 ^ q * x := by rw [← Nat.mul_add, ← Nat.mul_add]; congr 1; omega
  omega
theorem borrow_one {q b x y s1 s2 : Nat} {L : List Nat} (hl : L.length = q) (h : ofd 65536 L + s2 = s1 + 65536 ^ q * b) (hb : x < y + b) (hy : y + b ≤ x + 65536) : ofd 65536 (L ++ [x + 65536 - y - b]) + (s2 + 65536 ^ q * y) = s1 + 65536 ^ q * x + 65536 ^ (q + 1) * 1 := by
  rw [ofd_snoc, hl, Nat.pow_succ, Nat.mul_one]
  have : 65536 ^ q * (x + 65536 - y - b) + 65536 ^ q * y + 65536 ^ q * b = 65536 ^ q * x + 65536 ^ q * 65536 := by rw [← Nat.mul_add, ← Nat.mul_add, ← Nat.mul_add]; congr 1; omega
  omega
theorem borrow_end {N b s1 s2 : Nat} {L : List Nat} (hl : L.length = N) (hD : Digs 65536 L) (h : ofd 65536 L + s2 = s1 + 65536 ^ N * b) (hs : s2 ≤ s1) : ofd 65536 L = s1 - s2 := by
  have h1 := ofd_lt hD
  rw [hl] at h1
  have hb : b = 0 := by
    cases b with
    | zero => rfl
    | succ b =>
      have : 65536 ^ N * (b + 1) ≥ 65536 ^ N := Nat.le_mul_of_pos_right _ (by omega)
      omega
  subst hb
  omega
/-- The first place from above where they differ tells which is the smaller one. -/
theorem dsum_cmp {l l' : List Nat} (h : Digs 65536 l) (h' : Digs 65536 l') (E E' fr : Int) (k : Nat) (hlt : dat l E (fr + k) < dat l' E' (fr + k)) : ∀ N, k < N → (∀ j, k < j → j < N → dat l E (fr + j) = dat l' E' (fr + j)) → dsum l E fr N < dsum l' E' fr N
  | 0, hk, _ => by omega
  | N + 1, hk, heq => by
    rw [dsum, dsum]
    by_cases e : k = N
    · subst e
      have h1 := dsum_lt h E fr k
      have : 65536 ^ k * (dat l E (fr + k) + 1) ≤ 65536 ^ k * dat l' E' (fr + k) := Nat.mul_le_mul_left _ hlt
      rw [Nat.mul_add] at this
      omega
    · have ih := dsum_cmp h h' E E' fr k hlt N (by omega) (fun j h1 h2 => heq j h1 (by omega))
      rw [heq N (by omega) (by omega)]
      omega
theorem dsum_eq {l l' : List Nat} {E E' fr : Int} : ∀ N, (∀ j : Nat, j < N → dat l E (fr + j) = dat l' E' (fr + j)) → dsum l E fr N = dsum l' E' fr N
  | 0, _ => rfl
  | N + 1, h => by rw [dsum, dsum, dsum_eq N (fun j hj => h j (by omega)), h N (by omega)]
/-! ### Signs. -/
theorem sgd_add (neg : Bool) (a b : Nat) : sgd neg a + sgd neg b = sgd neg (a + b) := by unfold sgd; cases neg <;> simp <;> omega
theorem sgd_sub (neg : Bool) {a b : Nat} (h : b ≤ a) : sgd neg a + sgd (!neg) b = sgd neg (a - b) := by unfold sgd; cases neg <;> simp <;> omega
theorem sgd_zero (neg : Bool) : sgd neg 0 = 0 := by unfold sgd; cases neg <;> rfl
theorem sgd_not (neg : Bool) (a : Nat) : sgd (!neg) a = -sgd neg a := by unfold sgd; cases neg <;> simp
theorem sgd_mul (p q : Bool) (a b : Nat) : sgd (p != q) (a * b) = sgd p a * sgd q b := by unfold sgd; cases p <;> cases q <;> simp [Int.neg_mul, Int.mul_neg]
end Go.Proofs.YtbkbeglmfhaleaaGreatDoor
