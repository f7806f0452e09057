/-
Differences of digits with a borrow, the arithmetic. Conditions: as each says.
-/
import Derived.Test.YtelpdbkkefpjhaaWKn
set_option linter.unusedVariables false
namespace Go.Proofs.Ytelpdbkkefpjhaa

/-- The first loop of difference. -/
def Dif1 (L1 L2 : List Nat) (k : Nat) (M : List Nat) (b : Nat) : Prop := Digs Q M ∧ M.length = L1.length ∧ b ≤ 1 ∧ ofd Q M + ofd Q (L2.take k) = ofd Q L1 + Q ^ k * b
theorem Dif1.start {L1 L2 : List Nat} (h : Digs Q L1) : Dif1 L1 L2 0 L1 0 := ⟨h, rfl, by omega, by simp [ofd]⟩
theorem Dif1.step (L1 L2 : List Nat) (k : Nat) (M : List Nat) (b x y : Nat) (h : Dif1 L1 L2 k M b) (hi : k < M.length) (hx : M[k] = x) (hk : k < L2.length) (hy : L2[k] = y) (hyq : y < Q) :
    Dif1 L1 L2 (k + 1) (M.set k ((x + Q - y - b) % Q)) (if x < y + b then 1 else 0) := by
  obtain ⟨h1, h2, h3, h4⟩ := h
  have hq := Q_val
  have hxq : x < Q := by rw [← hx]; exact h1.get k hi
  refine ⟨h1.set k (Nat.mod_lt _ (by omega)), by simpa using h2, by split <;> omega, ?_⟩
  have s1 := ofd_set Q M k ((x + Q - y - b) % Q) hi
  rw [hx] at s1
  have e : (x + Q - y - b) % Q + y + b = x + Q * (if x < y + b then 1 else 0) := by
    split
    · rename_i hlt; rw [Nat.mod_eq_of_lt (by omega)]; omega
    · rename_i hge
      have : x + Q - y - b = x - y - b + Q * 1 := by omega
      rw [this, Nat.add_mul_mod_self_left, Nat.mod_eq_of_lt (by omega)]; omega
  generalize (x + Q - y - b) % Q = v at *
  generalize (if x < y + b then 1 else 0) = B at *
  rw [ofd_take_succ Q L2 k hk, hy, Nat.pow_succ]
  generalize ofd Q (M.set k v) = X at *
  generalize Q ^ k = P at *
  have m : P * (v + y + b) = P * (x + Q * B) := by rw [e]
  rw [Nat.mul_add, Nat.mul_add, Nat.mul_add, ← Nat.mul_assoc] at m
  omega
/-- The second loop of difference. -/
def Dif2 (M0 : List Nat) (k : Nat) (M : List Nat) (c : Nat) : Prop :=
  Digs Q M ∧ M.length = M0.length ∧ c ≤ 1 ∧ M.drop k = M0.drop k ∧ ofd Q (M.take k) + Q ^ k * c + ofd Q (M0.take k) = Q ^ k
theorem Dif2.start {M0 : List Nat} (h : Digs Q M0) : Dif2 M0 0 M0 1 := ⟨h, rfl, by omega, rfl, by simp [ofd]⟩
theorem Dif2.step (M0 : List Nat) (k : Nat) (M : List Nat) (c x : Nat) (h : Dif2 M0 k M c) (hi : k < M.length) (hx : M[k] = x) :
    Dif2 M0 (k + 1) (M.set k ((Q - 1 - x + 0 + c) % Q)) ((Q - 1 - x + 0 + c) / Q) := by
  obtain ⟨h1, h2, h3, h4, h5⟩ := h
  have hq := Q_val
  have hxq : x < Q := by rw [← hx]; exact h1.get k hi
  have hx0 : M0[k]'(by omega) = x := by
    have : (M.drop k)[0]? = (M0.drop k)[0]? := by rw [h4]
    rw [List.getElem?_drop, List.getElem?_drop, List.getElem?_eq_getElem (by omega), List.getElem?_eq_getElem (by omega)] at this
    simpa [hx] using this.symm
  have hd : (Q - 1 - x + 0 + c) % Q + Q * ((Q - 1 - x + 0 + c) / Q) + x = Q - 1 + c := by
    have := Nat.mod_add_div (Q - 1 - x + 0 + c) Q; omega
  refine ⟨h1.set k (Nat.mod_lt _ (by omega)), by simpa using h2, ?_, ?_, ?_⟩
  · rw [Nat.div_le_iff_le_mul_add_pred (by omega)]; omega
  · rw [drop_set_succ, ← List.drop_drop, ← List.drop_drop, h4]
  · rw [ofd_take_set Q M k _ hi, ofd_take_succ Q M0 k (by omega), hx0, Nat.pow_succ]
    generalize (Q - 1 - x + 0 + c) % Q = v at *
    generalize (Q - 1 - x + 0 + c) / Q = C at *
    generalize Q ^ k = P at *
    have m : P * (v + Q * C + x) = P * (Q - 1 + c) := by rw [hd]
    have m2 : P * (Q - 1 + c) + P = P * Q + P * c := by
      rw [← Nat.mul_add_one, ← Nat.mul_add]; congr 1; omega
    rw [Nat.mul_add, Nat.mul_add, ← Nat.mul_assoc] at m
    omega
end Go.Proofs.Ytelpdbkkefpjhaa
