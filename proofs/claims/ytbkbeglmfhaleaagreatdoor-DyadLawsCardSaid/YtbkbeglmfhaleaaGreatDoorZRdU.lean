/-
Binary digits in groups of four. Conditions: none.
-/
import Derived.Test.YtbkbeglmfhaleaaGreatDoorUca
import Derived.Test.YtbkbeglmfhaleaaGreatDoorW3
import Derived.Test.YtbkbeglmfhaleaaGreatDoorRdG
set_option linter.unusedVariables false
namespace Go.Proofs.YtbkbeglmfhaleaaGreatDoor

theorem hv_from : ∀ (b : List Nat) (a : Nat), b.foldl (fun a x => 2 * a + x) a = a * 2 ^ b.length + b.foldl (fun a x => 2 * a + x) 0
  | [], a => by simp
  | x :: t, a => by
    rw [List.foldl_cons, List.foldl_cons, hv_from t (2 * a + x), hv_from t (2 * 0 + x), List.length_cons, Nat.pow_succ]
    rw [Nat.add_mul, Nat.add_mul, show 2 * a * 2 ^ t.length = a * (2 ^ t.length * 2) by rw [Nat.mul_comm 2 a, Nat.mul_assoc, Nat.mul_comm 2]]
    omega
theorem hv_append (a b : List Nat) : hv (a ++ b) = hv a * 2 ^ b.length + hv b := by
  unfold hv
  rw [List.foldl_append, hv_from]
theorem hv_cons (x : Nat) (t : List Nat) : hv (x :: t) = x * 2 ^ t.length + hv t := by
  rw [show x :: t = [x] ++ t from rfl, hv_append]
  simp [hv]
theorem hv_lt : ∀ {b : List Nat}, Two b → hv b < 2 ^ b.length
  | [], _ => by simp [hv]
  | x :: t, h => by
    have h1 := hv_lt h.tail
    have h2 := h x List.mem_cons_self
    rw [hv_cons, List.length_cons, Nat.pow_succ]
    have h3 : x * 2 ^ t.length ≤ 1 * 2 ^ t.length := Nat.mul_le_mul_right _ (by omega)
    omega
theorem hv_odd {b : List Nat} (h : b.getLast? = some 1) : hv b % 2 = 1 := by
  rcases List.eq_nil_or_concat b with rfl | ⟨t, d, rfl⟩
  · cases h
  · rw [List.concat_eq_append] at h ⊢
    simp at h
    subst h
    rw [hv_snoc]; omega
theorem hv_bl {b : List Nat} (hT : Two b) (h : b.head? = some 1) : bl (hv b) = b.length := by
  cases b with
  | nil => cases h
  | cons x t =>
    simp at h
    subst h
    have h1 := hv_lt hT
    have h2 : 2 ^ t.length ≤ hv (1 :: t) := by rw [hv_cons]; omega
    have h0 : hv (1 :: t) ≠ 0 := by have := Nat.two_pow_pos t.length; omega
    rw [List.length_cons] at h1 ⊢
    have e : (hv (1 :: t)).log2 = t.length := by
      have a1 : (hv (1 :: t)).log2 < t.length + 1 := (Nat.log2_lt h0).2 h1
      have a2 : t.length ≤ (hv (1 :: t)).log2 := (Nat.le_log2 h0).2 h2
      omega
    unfold bl
    rw [if_neg h0, e]
theorem nib_at {b : List Nat} (hT : Two b) {N j : Nat} (hl : b.length = 4 * N) (hj : j < N) :
    hv b / 16 ^ (N - 1 - j) % 16 = 8 * b.getD (4 * j) 0 + 4 * b.getD (4 * j + 1) 0 + 2 * b.getD (4 * j + 2) 0 + b.getD (4 * j + 3) 0 := by
  have g : ∀ i, i < 4 * N → b.getD i 0 = b.getD i 0 := fun _ _ => rfl
  have hd : ∀ i, i < b.length → b.drop i = b.getD i 0 :: b.drop (i + 1) := fun i hi => by
    rw [List.drop_eq_getElem_cons hi]
    simp [List.getD, hi]
  have h2 : ∀ i, i < b.length → b.getD i 0 < 2 := fun i hi => by
    have : b.getD i 0 = b[i] := by simp [List.getD, hi]
    rw [this]; exact hT _ (List.getElem_mem hi)
  have e : b = b.take (4 * j) ++ b.drop (4 * j) := (List.take_append_drop _ _).symm
  have hb : hv b = hv (b.take (4 * j)) * 2 ^ (b.drop (4 * j)).length + hv (b.drop (4 * j)) := by
    conv => lhs; rw [e]
    exact hv_append _ _
  have l4 : (b.drop (4 * j + 4)).length = 4 * (N - 1 - j) := by rw [List.length_drop]; omega
  have hlt : hv (b.drop (4 * j + 4)) < 2 ^ (4 * (N - 1 - j)) := by
    have := hv_lt (b := b.drop (4 * j + 4)) (fun x hx => hT x (List.mem_of_mem_drop hx))
    rwa [l4] at this
  have hq : hv (b.drop (4 * j)) = (8 * b.getD (4 * j) 0 + 4 * b.getD (4 * j + 1) 0 + 2 * b.getD (4 * j + 2) 0 + b.getD (4 * j + 3) 0) * 2 ^ (4 * (N - 1 - j)) + hv (b.drop (4 * j + 4)) := by
    rw [hd (4 * j) (by omega), hd (4 * j + 1) (by omega), hd (4 * j + 1 + 1) (by omega), hd (4 * j + 1 + 1 + 1) (by omega), hv_cons, hv_cons, hv_cons, hv_cons]
    simp only [List.length_cons, List.length_drop, hl]
    rw [show 4 * N - (4 * j + 1 + 1 + 1 + 1) = 4 * (N - 1 - j) by omega]
    rw [Nat.pow_succ, Nat.pow_succ, Nat.pow_succ]
    generalize 2 ^ (4 * (N - 1 - j)) = P
    rw [Nat.add_mul, Nat.add_mul, Nat.add_mul]
    rw [show b.getD (4 * j) 0 * (P * 2 * 2 * 2) = 8 * b.getD (4 * j) 0 * P by rw [Nat.mul_assoc 8, Nat.mul_left_comm 8]; congr 1; omega]
    rw [show b.getD (4 * j + 1) 0 * (P * 2 * 2) = 4 * b.getD (4 * j + 1) 0 * P by rw [Nat.mul_assoc 4, Nat.mul_left_comm 4]; congr 1; omega]
    rw [show b.getD (4 * j + 1 + 1) 0 * (P * 2) = 2 * b.getD (4 * j + 2) 0 * P by rw [Nat.mul_assoc 2, Nat.mul_left_comm 2]; congr 1; omega]
    rw [show 4 * j + 1 + 1 + 1 = 4 * j + 3 by omega, show 4 * j + 1 + 1 + 1 + 1 = 4 * j + 4 by omega]
    omega
  have l0 : (b.drop (4 * j)).length = 4 * (N - 1 - j) + 4 := by rw [List.length_drop]; omega
  have x0 := h2 (4 * j) (by omega)
  have x1 := h2 (4 * j + 1) (by omega)
  have x2 := h2 (4 * j + 2) (by omega)
  have x3 := h2 (4 * j + 3) (by omega)
  rw [hb, hq, l0, Nat.pow_add, show (16 : Nat) ^ (N - 1 - j) = 2 ^ (4 * (N - 1 - j)) by rw [show (16 : Nat) = 2 ^ 4 by decide, ← Nat.pow_mul]]
  generalize hv (b.take (4 * j)) = T at *
  generalize hv (b.drop (4 * j + 4)) = R at *
  generalize b.getD (4 * j) 0 = d0 at *
  generalize b.getD (4 * j + 1) 0 = d1 at *
  generalize b.getD (4 * j + 2) 0 = d2 at *
  generalize b.getD (4 * j + 3) 0 = d3 at *
  have hp : 0 < 2 ^ (4 * (N - 1 - j)) := Nat.two_pow_pos _
  generalize 2 ^ (4 * (N - 1 - j)) = P at *
  have e1 : T * (P * 2 ^ 4) + ((8 * d0 + 4 * d1 + 2 * d2 + d3) * P + R) = P * (T * 16 + (8 * d0 + 4 * d1 + 2 * d2 + d3)) + R := by
    rw [Nat.mul_add, show (2 : Nat) ^ 4 = 16 by decide, Nat.mul_left_comm, Nat.mul_comm P (8 * d0 + 4 * d1 + 2 * d2 + d3)]
    omega
  rw [e1, Nat.mul_add_div hp, Nat.div_eq_of_lt hlt]
  omega
theorem hv_zeros (k : Nat) (b : List Nat) : hv (List.replicate k 0 ++ b) = hv b := by
  induction k with
  | zero => rfl
  | succ k ih => rw [List.replicate_succ, List.cons_append, hv_zero, ih]
end Go.Proofs.YtbkbeglmfhaleaaGreatDoor
