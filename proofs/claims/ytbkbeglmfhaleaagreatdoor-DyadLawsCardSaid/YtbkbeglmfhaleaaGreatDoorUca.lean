/-
The document's Shift of digits to base 65536: what each round leaves. Conditions: the shift is below 16.
-/
import Derived.Test.YtbkbeglmfhaleaaGreatDoorDig
set_option linter.unusedVariables false
namespace Go.Proofs.YtbkbeglmfhaleaaGreatDoor

/-- The list when i digits have been shifted by r. -/
def Sh (l : List Nat) (r i : Nat) (M : List Nat) : Prop := M.length = l.length + 1 ∧ Digs 65536 M ∧ M.getD i 0 < 2 ^ r ∧ (∀ j, i < j → M.getD j 0 = 0) ∧ ofd 65536 (M.take (i + 1)) = ofd 65536 (l.take i) * 2 ^ r
theorem Sh.zero (l : List Nat) (r : Nat) : Sh l r 0 (List.replicate (l.length + 1) 0) := by
  have hg : ∀ j, (List.replicate (l.length + 1) 0).getD j 0 = 0 := by
    intro j
    simp only [List.getD, List.getElem?_replicate]
    split <;> rfl
  refine ⟨by simp, Digs.replicate (by omega) _, by rw [hg]; exact Nat.pos_of_ne_zero (by simp), fun j _ => hg j, ?_⟩
  rw [List.take_replicate, ofd_replicate]; simp [ofd_nil]

/-- What a digit comes to, split at 65536. -/
theorem shift_room {d r c : Nat} (hd : d < 65536) (hr : r ≤ 15) (hc : c < 2 ^ r) : c + d * 2 ^ r % 65536 < 65536 ∧ d * 2 ^ r / 65536 < 2 ^ r := by
  have hp : 2 ^ r * 2 ^ (16 - r) = 65536 := by rw [← Nat.pow_add, show r + (16 - r) = 16 by omega]
  constructor
  · have h1 : d * 2 ^ r % 65536 = 2 ^ r * (d % 2 ^ (16 - r)) := by
      rw [← hp, Nat.mul_comm d, Nat.mul_mod_mul_left]
    rw [h1]
    have h2 : d % 2 ^ (16 - r) < 2 ^ (16 - r) := Nat.mod_lt _ (Nat.pos_of_ne_zero (by simp))
    have h3 : 2 ^ r * (d % 2 ^ (16 - r) + 1) ≤ 2 ^ r * 2 ^ (16 - r) := Nat.mul_le_mul_left _ h2
    rw [hp, Nat.mul_add, Nat.mul_one] at h3
    omega
  · rw [Nat.div_lt_iff_lt_mul (by omega), Nat.mul_comm (2 ^ r)]
    exact Nat.mul_lt_mul_of_pos_right hd (Nat.pos_of_ne_zero (by simp))

theorem Sh.step {l M : List Nat} {r i : Nat} (h : Sh l r i M) (hD : Digs 65536 l) (hi : i < l.length) (hr : r ≤ 15) :
    Sh l r (i + 1) ((M.set i (M.getD i 0 + l[i] * 2 ^ r % 65536)).set (i + 1) (l[i] * 2 ^ r / 65536)) := by
  obtain ⟨hl, hd, hc, hz, ho⟩ := h
  obtain ⟨r1, r2⟩ := shift_room (hD.get i hi) hr hc
  have hi1 : i + 1 < (M.set i (M.getD i 0 + l[i] * 2 ^ r % 65536)).length := by rw [List.length_set, hl]; omega
  have h3 : (2 : Nat) ^ r ≤ 2 ^ 15 := Nat.pow_le_pow_right (by omega) hr
  have h4 : l[i] * 2 ^ r / 65536 < 65536 := by omega
  refine ⟨by simp [hl], (hd.set i r1).set (i + 1) h4, ?_, ?_, ?_⟩
  · rw [List.getD, List.getElem?_set_self hi1]; exact r2
  · intro j hj
    rw [List.getD, List.getElem?_set_ne (by omega), List.getElem?_set_ne (by omega)]
    have := hz j (by omega)
    rwa [List.getD] at this
  · rw [ofd_take_set 65536 _ (i + 1) _ hi1, ofd_take_set 65536 M i _ (by omega), ofd_take_succ 65536 l i hi, Nat.add_mul, ← ho,
      ofd_take_succ 65536 M i (by omega)]
    have hg : M.getD i 0 = M[i]'(by omega) := by simp [List.getD, show i < M.length by omega]
    rw [hg]
    have hm := Nat.div_add_mod (l[i] * 2 ^ r) 65536
    generalize l[i] * 2 ^ r / 65536 = q at *
    generalize hx : l[i] * 2 ^ r % 65536 = m at *
    have hv : 65536 ^ i * l[i] * 2 ^ r = 65536 ^ i * m + 65536 ^ (i + 1) * q := by
      rw [Nat.mul_assoc, ← hm, Nat.mul_add, Nat.pow_succ, Nat.mul_assoc, Nat.add_comm]
    rw [hv, Nat.mul_add]
    omega
theorem Sh.done {l M : List Nat} {r : Nat} (h : Sh l r l.length M) : Digs 65536 M ∧ ofd 65536 M = ofd 65536 l * 2 ^ r := by
  obtain ⟨hl, hd, _, _, ho⟩ := h
  rw [List.take_of_length_le (by omega), List.take_of_length_le (Nat.le_refl _)] at ho
  exact ⟨hd, ho⟩
end Go.Proofs.YtbkbeglmfhaleaaGreatDoor
/-
Binary digits, the highest first: what a list of them comes to. Conditions: none.
-/
set_option linter.unusedVariables false
namespace Go.Proofs.YtbkbeglmfhaleaaGreatDoor

/-- The number that binary digits make, the highest first. -/
def hv (b : List Nat) : Nat := b.foldl (fun a x => 2 * a + x) 0
theorem hv_nil : hv [] = 0 := rfl
theorem hv_snoc (b : List Nat) (x : Nat) : hv (b ++ [x]) = 2 * hv b + x := by simp [hv, List.foldl_append]
theorem hv_zero (b : List Nat) : hv (0 :: b) = hv b := by simp [hv]
theorem hv_last (b : List Nat) : hv (b ++ [0]) = 2 * hv b := by rw [hv_snoc, Nat.add_zero]
/-- All are 0 or 1. -/
def Two (b : List Nat) : Prop := ∀ x ∈ b, x < 2
theorem Two.nil : Two [] := fun _ h => by cases h
theorem Two.snoc {b : List Nat} (h : Two b) {x : Nat} (hx : x < 2) : Two (b ++ [x]) := fun y hy => by
  rcases List.mem_append.1 hy with hy | hy
  · exact h y hy
  · simp at hy; omega
theorem Two.tail {b : List Nat} {x : Nat} (h : Two (x :: b)) : Two b := fun y hy => h y (List.mem_cons_of_mem _ hy)
theorem Two.init {b : List Nat} {x : Nat} (h : Two (b ++ [x])) : Two b := fun y hy => h y (List.mem_append_left _ hy)

/-- What stands there when the digits from i + 1 on, and of digit i the binary digits down to k, have been taken. -/
def Half2 (l : List Nat) (i k : Nat) (b : List Nat) : Prop := Two b ∧ b.length = 16 * (l.length - (i + 1)) + (16 - k) ∧ hv b = ofd 65536 (l.drop (i + 1)) * 2 ^ (16 - k) + l.getD i 0 / 2 ^ k
theorem Half2.begin {l b : List Nat} {i : Nat} (hT : Two b) (hl : b.length = 16 * (l.length - (i + 1))) (h : hv b = ofd 65536 (l.drop (i + 1))) (hD : Digs 65536 l) : Half2 l i 16 b := by
  refine ⟨hT, by omega, ?_⟩
  have : l.getD i 0 < 65536 := by
    by_cases hi : i < l.length
    · simpa [List.getD, hi] using hD.get i hi
    · simp [List.getD, List.getElem?_eq_none (Nat.le_of_not_lt hi)]
  rw [show (16 : Nat) - 16 = 0 from rfl, Nat.pow_zero, Nat.mul_one, Nat.div_eq_of_lt (show l.getD i 0 < 2 ^ 16 from this), h]; rfl
theorem Half2.step {l b : List Nat} {i k : Nat} (h : Half2 l i (k + 1) b) (hk : k < 16) : Half2 l i k (b ++ [l.getD i 0 / 2 ^ k % 2]) := by
  obtain ⟨hT, hl, hv1⟩ := h
  refine ⟨hT.snoc (Nat.mod_lt _ (by omega)), by rw [List.length_append, hl]; simp; omega, ?_⟩
  rw [hv_snoc, hv1, Nat.mul_add]
  have h1 : 2 ^ (16 - k) = 2 * 2 ^ (16 - (k + 1)) := by
    rw [show 16 - k = (16 - (k + 1)) + 1 by omega, Nat.pow_succ, Nat.mul_comm]
  have h2 : l.getD i 0 / 2 ^ (k + 1) = l.getD i 0 / 2 ^ k / 2 := by rw [Nat.pow_succ, Nat.div_div_eq_div_mul]
  rw [h1, h2]
  have h3 := Nat.div_add_mod (l.getD i 0 / 2 ^ k) 2
  generalize l.getD i 0 / 2 ^ k = q at *
  have h4 : ofd 65536 (l.drop (i + 1)) * (2 * 2 ^ (16 - (k + 1))) = 2 * (ofd 65536 (l.drop (i + 1)) * 2 ^ (16 - (k + 1))) := by
    rw [Nat.mul_left_comm]
  rw [h4]
  omega
theorem Half2.next {l b : List Nat} {i : Nat} (h : Half2 l i 0 b) (hi : i < l.length) : Two b ∧ b.length = 16 * (l.length - i) ∧ hv b = ofd 65536 (l.drop i) := by
  obtain ⟨hT, hl, hv1⟩ := h
  refine ⟨hT, by omega, ?_⟩
  rw [hv1, ofd_drop_succ 65536 l i hi]
  have hg : l.getD i 0 = l[i] := by simp [List.getD, hi]
  rw [hg, Nat.pow_zero, Nat.div_one, show (16 : Nat) - 0 = 16 from rfl, show (2 : Nat) ^ 16 = 65536 by decide, Nat.mul_comm, Nat.add_comm]
end Go.Proofs.YtbkbeglmfhaleaaGreatDoor
