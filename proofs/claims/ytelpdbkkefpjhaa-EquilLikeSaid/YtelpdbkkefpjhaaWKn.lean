/-
Rounding keeps the order; scaling up and back; the word above. Conditions: none beyond what each says.
-/
import Derived.Test.YtelpdbkkefpjhaaKFlB
import Derived.Test.YtelpdbkkefpjhaaZKMem
namespace Go.Proofs.Ytelpdbkkefpjhaa.Fl

theorem rne_le (n d : Nat) : n / 2 ^ d ≤ rne n d ∧ rne n d ≤ n / 2 ^ d + 1 := by unfold rne; split <;> omega
end Go.Proofs.Ytelpdbkkefpjhaa.Fl
/-
Sums of digits with a carry, the arithmetic. Conditions: as each says.
-/
set_option linter.unusedVariables false
namespace Go.Proofs.Ytelpdbkkefpjhaa

theorem add_step {L : List Nat} (hL : Digs Q L) {i x y c : Nat} (hi : i < L.length) (hx : L[i] = x) (hy : y < Q) (hc : c ≤ 1) :
    Digs Q (L.set i ((x + y + c) % Q)) ∧ (L.set i ((x + y + c) % Q)).length = L.length ∧ (x + y + c) / Q ≤ 1 ∧
      ofd Q (L.set i ((x + y + c) % Q)) + Q ^ (i + 1) * ((x + y + c) / Q) = ofd Q L + Q ^ i * (y + c) := by
  have hq := Q_val
  have hx' : x < Q := by rw [← hx]; exact hL.get i hi
  refine ⟨hL.set i (Nat.mod_lt _ (by omega)), by simp, ?_, ?_⟩
  · rw [Nat.div_le_iff_le_mul_add_pred (by omega)]; omega
  · have h1 := ofd_set Q L i ((x + y + c) % Q) hi
    rw [hx] at h1
    have h2 := Nat.mod_add_div (x + y + c) Q
    generalize (x + y + c) % Q = r at *
    generalize (x + y + c) / Q = q at *
    rw [Nat.pow_succ]
    generalize Q ^ i = P at *
    have : P * (r + Q * q) = P * (x + y + c) := by rw [h2]
    rw [Nat.mul_add, Nat.mul_add, Nat.mul_add] at this
    rw [Nat.mul_assoc, Nat.mul_add]
    omega
/-- The digits' word and what is carried behind it, shifted by s. -/
theorem shl_split {d s : Nat} (hs : s < 64) : d * 2 ^ s = d * 2 ^ s % Q + Q * (d / 2 ^ (64 - s)) := by
  have h := Nat.mod_add_div (d * 2 ^ s) Q
  have e : d * 2 ^ s / Q = d / 2 ^ (64 - s) := by
    have : Q = 2 ^ (64 - s) * 2 ^ s := by rw [← Nat.pow_add, show 64 - s + s = 64 by omega]; rfl
    rw [this, Nat.mul_div_mul_right _ _ (Nat.two_pow_pos s)]
  rw [e] at h
  exact h.symm
theorem behind_lt {d s : Nat} (hs : s < 64) (hd : d < Q) : d / 2 ^ (64 - s) < 2 ^ s := by
  rw [Nat.div_lt_iff_lt_mul (Nat.two_pow_pos _), ← Nat.pow_add, show s + (64 - s) = 64 by omega]; exact hd
theorem shl_room {d b s : Nat} (hs : s < 64) (hb : b < 2 ^ s) : d * 2 ^ s % Q + b < Q ∧ d * 2 ^ s % Q % 2 ^ s = 0 := by
  have e : Q = 2 ^ (64 - s) * 2 ^ s := by rw [← Nat.pow_add, show 64 - s + s = 64 by omega]; rfl
  have h : d * 2 ^ s % Q = d % 2 ^ (64 - s) * 2 ^ s := by rw [e, Nat.mul_mod_mul_right]
  have h2 : d % 2 ^ (64 - s) < 2 ^ (64 - s) := Nat.mod_lt _ (Nat.two_pow_pos _)
  refine ⟨?_, by rw [h]; simp⟩
  rw [h]
  have h3 : (d % 2 ^ (64 - s) + 1) * 2 ^ s ≤ 2 ^ (64 - s) * 2 ^ s := Nat.mul_le_mul_right _ h2
  rw [← e, Nat.add_mul] at h3
  omega
/-- The first loop of add: k words of D are in. -/
def Add1 (L D : List Nat) (p : Nat) (k : Nat) (M : List Nat) (c b : Nat) : Prop :=
  Digs Q M ∧ M.length = L.length ∧ c ≤ 1 ∧ b < 2 ^ (p % 64) ∧ ofd Q M + Q ^ (p / 64 + k) * (c + b) = ofd Q L + 2 ^ p * ofd Q (D.take k)
theorem Add1.start {L D : List Nat} {p : Nat} (h : Digs Q L) : Add1 L D p 0 L 0 0 := ⟨h, rfl, by omega, Nat.two_pow_pos _, by simp [ofd]⟩
theorem Add1.step (L D : List Nat) (p k : Nat) (M : List Nat) (c b d x : Nat) (h : Add1 L D p k M c b) (hk : k < D.length) (hd : D[k] = d) (hdq : d < Q) (hi : p / 64 + k < M.length) (hx : M[p / 64 + k] = x) :
    Add1 L D p (k + 1) (M.set (p / 64 + k) ((x + (d * 2 ^ (p % 64) % Q + b) + c) % Q)) ((x + (d * 2 ^ (p % 64) % Q + b) + c) / Q) (d / 2 ^ (64 - p % 64)) := by
  obtain ⟨h1, h2, h3, h4, h5⟩ := h
  have hs : p % 64 < 64 := Nat.mod_lt _ (by omega)
  obtain ⟨r1, r2⟩ := shl_room (d := d) hs h4
  obtain ⟨s1, s2, s3, s4⟩ := add_step h1 hi hx r1 h3
  refine ⟨s1, s2.trans h2, s3, behind_lt hs hdq, ?_⟩
  have e1 := shl_split (d := d) hs
  have e2 : 2 ^ p * Q ^ k = Q ^ (p / 64 + k) * 2 ^ (p % 64) := by
    rw [Q_pow, ← Nat.pow_mul, ← Nat.pow_mul, ← Nat.pow_add, ← Nat.pow_add]
    congr 1; omega
  rw [ofd_take_succ Q D k hk, hd, ← Nat.add_assoc (p / 64) k 1]
  rw [Nat.pow_succ] at s4 ⊢
  generalize d / 2 ^ (64 - p % 64) = b' at *
  generalize d * 2 ^ (p % 64) % Q = r at *
  generalize Q ^ (p / 64 + k) = P at *
  generalize (x + (r + b) + c) / Q = C at *
  generalize ofd Q (M.set (p / 64 + k) ((x + (r + b) + c) % Q)) = X at *
  generalize ofd Q (D.take k) = T at *
  generalize 2 ^ p = W at *
  generalize Q ^ k = K at *
  generalize 2 ^ (p % 64) = S at *
  have m1 : P * (d * S) = P * (r + Q * b') := by rw [← e1]
  have m2 : W * K * d = P * S * d := by rw [e2]
  clear hi hx hd hdq h1 h2 h3 h4 r1 r2 s1 s2 s3 e1 e2 hk hs
  generalize Q = q at *
  simp only [Nat.mul_add, Nat.mul_comm, Nat.mul_left_comm] at *
  omega
/-- The second loop of add. -/
def Add2 (n T : Nat) (i : Nat) (M : List Nat) (c r : Nat) : Prop := Digs Q M ∧ M.length = n ∧ c ≤ 1 ∧ r < Q ∧ ofd Q M + Q ^ i * (c + r) = T
theorem Add2.start {L D : List Nat} {p : Nat} {M : List Nat} {c b n : Nat} (h : Add1 L D p D.length M c b) (hn : L.length = n) : Add2 n (ofd Q L + 2 ^ p * ofd Q D) (p / 64 + D.length) M c b := by
  obtain ⟨h1, h2, h3, h4, h5⟩ := h
  rw [List.take_of_length_le (Nat.le_refl _)] at h5
  refine ⟨h1, h2.trans hn, h3, Nat.lt_of_lt_of_le h4 ?_, h5⟩
  rw [Q_pow]; exact Nat.pow_le_pow_right (by omega) (by omega)
theorem Add2.room {n T i : Nat} {M : List Nat} {c r : Nat} (h : Add2 n T i M c r) (hT : T < Q ^ n) (hcr : c + r ≠ 0) : i < n := by
  obtain ⟨_, _, _, _, h5⟩ := h
  have : Q ^ i * 1 ≤ Q ^ i * (c + r) := Nat.mul_le_mul_left _ (by omega)
  have h4 : Q ^ i < Q ^ n := by omega
  exact (Nat.pow_lt_pow_iff_right (show 1 < Q by unfold Q; omega)).1 h4
theorem Add2.step {n T i : Nat} {M : List Nat} {c r x : Nat} (h : Add2 n T i M c r) (hi : i < M.length) (hx : M[i] = x) :
    Add2 n T (i + 1) (M.set i ((x + r + c) % Q)) ((x + r + c) / Q) 0 := by
  obtain ⟨h1, h2, h3, h4, h5⟩ := h
  obtain ⟨s1, s2, s3, s4⟩ := add_step h1 hi hx h4 h3
  refine ⟨s1, s2.trans h2, s3, by have := Q_val; omega, ?_⟩
  show ofd Q (M.set i ((x + r + c) % Q)) + Q ^ (i + 1) * ((x + r + c) / Q) = T
  rw [s4, ← h5, Nat.add_comm r c]
theorem Add2.done {n T i : Nat} {M : List Nat} (h : Add2 n T i M 0 0) : Digs Q M ∧ M.length = n ∧ ofd Q M = T := by
  obtain ⟨h1, h2, _, _, h5⟩ := h
  exact ⟨h1, h2, by simpa using h5⟩
end Go.Proofs.Ytelpdbkkefpjhaa
