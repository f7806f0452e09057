/-
How far a difference and a quotient of floats are off; what is finite comes of what is finite. Conditions: as each says.
-/
import Derived.Test.YtlhdcajamempoaaSae
set_option linter.unusedVariables false
set_option linter.unusedSimpArgs false
namespace Go.Proofs.Ytlhdcajamempoaa.Fl
open Ieee

/-- The word with the other sign. -/
def flp (y : Nat) : Nat := wd (!sg y) (rung y)
theorem sg_flp (y : Nat) : sg (flp y) = !sg y := sg_wd _ (rung_lt y)
theorem rung_flp (y : Nat) : rung (flp y) = rung y := rung_wd _ (rung_lt y)
theorem val_flp (y : Nat) : val (flp y) = - val y := by
  unfold val
  rw [sg_flp, rung_flp]
  cases sg y <;> simp
theorem read_flp (y : Nat) : double.read (flp y) = (double.read y).opposite := by
  have e1 : (flp y / double.signWeight % 2 == 1) = !(y / double.signWeight % 2 == 1) := by
    rw [dbl_sign]; exact sg_flp y
  have e2 : flp y % double.signWeight = y % double.signWeight := by
    rw [dbl_sign]; exact rung_flp y
  unfold Format.read
  simp only [e1, e2]
  split
  · rfl
  · split
    · rfl
    · split <;> rfl
theorem sub_add (x y : Nat) : double.sub x y = double.add x (flp y) := by
  unfold Format.sub Format.add
  rw [read_flp]
theorem sub_err {x y r : Nat} (hx : rung x < INF) (hy : rung y < INF) (h : double.sub x y = some r) (hr : rung r < INF) :
    9007199254740992 * (val r - (val x - val y)).natAbs ≤ (val x - val y).natAbs := by
  rw [sub_add] at h
  have := add_err hx (by rw [rung_flp]; exact hy) h hr
  rw [val_flp, ← Int.sub_eq_add_neg] at this
  exact this
theorem sub_back {x y r : Nat} (h : double.sub x y = some r) (hr : rung r < INF) : rung x < INF ∧ rung y < INF := by
  rw [sub_add] at h
  have := add_back h hr
  rw [rung_flp] at this
  exact this
/-- What a quotient comes to, in plain numbers: q times n and the rest, told by one more digit, are near to twice the dividend. -/
theorem quo_dig {m n k : Nat} (hn : 0 < n) : ∃ Q, 2 * (m * 2 ^ k / n) + ((m * 2 ^ k) % n != 0).toNat = Q ∧ Q * n ≤ 2 * (m * 2 ^ k) + n ∧ 2 * (m * 2 ^ k) ≤ Q * n + n ∧ (m = 0 → Q = 0) := by
  obtain ⟨D, hD⟩ : ∃ D, m * 2 ^ k = D := ⟨_, rfl⟩
  have hm : m = 0 → D = 0 := by rintro rfl; rw [← hD, Nat.zero_mul]
  rw [hD]
  have h1 := Nat.div_add_mod D n
  have h2 := Nat.mod_lt D hn
  refine ⟨_, rfl, ?_, ?_, ?_⟩
  · have e : (2 * (D / n) + (D % n != 0).toNat) * n = 2 * (n * (D / n)) + (D % n != 0).toNat * n := by rw [Nat.add_mul, Nat.mul_assoc, Nat.mul_comm (D / n) n]
    rw [e]
    by_cases h : D % n = 0
    · simp [h]; omega
    · have : (D % n != 0).toNat = 1 := by simp [h]
      rw [this]; omega
  · have e : (2 * (D / n) + (D % n != 0).toNat) * n = 2 * (n * (D / n)) + (D % n != 0).toNat * n := by rw [Nat.add_mul, Nat.mul_assoc, Nat.mul_comm (D / n) n]
    rw [e]
    by_cases h : D % n = 0
    · simp [h]; omega
    · have : (D % n != 0).toNat = 1 := by simp [h]
      rw [this]; omega
  · intro h
    rw [hm h]; simp
/-- So many digits that the rest hardly counts. -/
theorem quo_many {m n k : Nat} (hm : m ≠ 0) (hn : 0 < n) (hk : 54 + n.log2 - m.log2 ≤ k) : 9007199254740992 * n ≤ m * 2 ^ k := by
  have h1 : 2 ^ m.log2 ≤ m := Nat.log2_self_le hm
  have h2 : n < 2 ^ (n.log2 + 1) := Nat.lt_log2_self
  have h3 : 2 ^ (54 + n.log2) ≤ m * 2 ^ k := by
    calc 2 ^ (54 + n.log2) ≤ 2 ^ (m.log2 + k) := Nat.pow_le_pow_right (by omega) (by omega)
      _ = 2 ^ m.log2 * 2 ^ k := Nat.pow_add 2 _ _
      _ ≤ m * 2 ^ k := Nat.mul_le_mul_right _ h1
  have h4 : 2 ^ (54 + n.log2) = 9007199254740992 * 2 ^ (n.log2 + 1) := by
    rw [show 54 + n.log2 = 53 + (n.log2 + 1) by omega, Nat.pow_add]
  omega
theorem quo_lin1 {P A B c : Nat} (h1 : 9007199254740992 * P ≤ 9007199254740992 * B + B) (h2 : 9007199254740992 * B ≤ 9007199254740992 * P + B) (h3 : B ≤ A + c) (h4 : A ≤ B + c) (h5 : 18014398509481984 * c ≤ A) :
    9007199254740992 * P ≤ 9007199254740992 * A + 2 * A ∧ 9007199254740992 * A ≤ 9007199254740992 * P + 2 * A := by omega
theorem quo_lin2 {P A B c M : Nat} (h1 : 9007199254740992 * P ≤ 9007199254740992 * B + max B M) (h2 : 9007199254740992 * B ≤ 9007199254740992 * P + max B M) (h3 : B ≤ A + c) (h4 : A ≤ B + c) (h5 : 18014398509481984 * c ≤ A) :
    9007199254740992 * P ≤ 9007199254740992 * A + 2 * A + M ∧ 9007199254740992 * A ≤ 9007199254740992 * P + 2 * A + M := by omega
/-- A quotient's rung, in plain numbers. -/
theorem quo_near {m n k u v Q R : Nat} {E : Int} (K : Nat) (hn : 0 < n) (hk : 54 + n.log2 - m.log2 ≤ k) (hQ : 2 * (m * 2 ^ k / n) + ((m * 2 ^ k) % n != 0).toNat = Q) (hE : E = (u : Int) + K - v - k - 1) (hR : R = mag (if 0 ≤ E then rnd (Q * 2 ^ E.toNat) 0 else rnd Q (-E).toNat)) :
    9007199254740992 * (R * (n * 2 ^ v)) ≤ 9007199254740992 * (m * 2 ^ u * 2 ^ K) + 2 * (m * 2 ^ u * 2 ^ K) + 4503599627370496 * (n * 2 ^ v) ∧
    9007199254740992 * (m * 2 ^ u * 2 ^ K) ≤ 9007199254740992 * (R * (n * 2 ^ v)) + 2 * (m * 2 ^ u * 2 ^ K) + 4503599627370496 * (n * 2 ^ v) := by
  obtain ⟨Q', hQ', q1, q2, q3⟩ := quo_dig (m := m) (k := k) hn
  rw [hQ] at hQ'
  subst hQ'
  have q4 : 18014398509481984 * n ≤ 2 * (m * 2 ^ k) ∨ m = 0 := by
    by_cases h0 : m = 0
    · exact .inr h0
    · have := quo_many h0 hn hk
      exact .inl (by omega)
  rcases q4 with q4 | h0
  rotate_left
  · have hQ0 := q3 h0
    subst h0
    have hR0 : R = 0 := by
      rw [hR, hQ0]
      split
      · rw [Nat.zero_mul]; decide
      · have := rnd_err 0 (-E).toNat
        have e : rnd 0 (-E).toNat = 0 := by unfold rnd rne; simp
        rw [e]; decide
    rw [hR0]
    simp
  clear hQ
  obtain ⟨D, hD⟩ : ∃ D, m * 2 ^ k = D := ⟨_, rfl⟩
  rw [hD] at q1 q2 q4
  by_cases hE0 : 0 ≤ E
  · obtain ⟨t, ht⟩ : ∃ t : Nat, E = t := ⟨E.toNat, by omega⟩
    rw [if_pos hE0, ht, Int.toNat_natCast] at hR
    have hu : u + K = v + k + 1 + t := by omega
    have he := rnd_err0 (Q * 2 ^ t)
    rw [← hR] at he
    obtain ⟨Z, hZ⟩ : ∃ Z, 2 ^ (t + v) = Z := ⟨_, rfl⟩
    have eA : m * 2 ^ u * 2 ^ K = 2 * D * Z := by
      rw [Nat.mul_assoc, ← Nat.pow_add, hu, ← hD, ← hZ, show v + k + 1 + t = k + (1 + (t + v)) by omega, Nat.pow_add, Nat.pow_add 2 1]
      simp only [Nat.pow_one, Nat.mul_assoc, Nat.mul_left_comm]
    have eB : Q * 2 ^ t * (n * 2 ^ v) = Q * n * Z := by
      rw [← hZ, Nat.pow_add]
      simp only [Nat.mul_assoc, Nat.mul_left_comm]
    have h1 : 9007199254740992 * (R * (n * 2 ^ v)) ≤ 9007199254740992 * (Q * n * Z) + Q * n * Z := by
      rw [← eB, ← Nat.mul_assoc, ← Nat.mul_assoc 9007199254740992, ← Nat.add_mul]
      exact Nat.mul_le_mul_right _ he.1
    have h2 : 9007199254740992 * (Q * n * Z) ≤ 9007199254740992 * (R * (n * 2 ^ v)) + Q * n * Z := by
      rw [← eB, ← Nat.mul_assoc, ← Nat.mul_assoc 9007199254740992 R, ← Nat.add_mul]
      exact Nat.mul_le_mul_right _ he.2
    have h3 : Q * n * Z ≤ 2 * D * Z + n * Z := by rw [← Nat.add_mul]; exact Nat.mul_le_mul_right _ q1
    have h4 : 2 * D * Z ≤ Q * n * Z + n * Z := by rw [← Nat.add_mul]; exact Nat.mul_le_mul_right _ q2
    have h5 : 18014398509481984 * (n * Z) ≤ 2 * D * Z := by rw [← Nat.mul_assoc]; exact Nat.mul_le_mul_right _ q4
    rw [eA]
    have := quo_lin1 h1 h2 h3 h4 h5
    exact ⟨Nat.le_trans this.1 (Nat.le_add_right _ _), Nat.le_trans this.2 (Nat.le_add_right _ _)⟩
  · obtain ⟨t, ht⟩ : ∃ t : Nat, E = -(t : Int) := ⟨(-E).toNat, by omega⟩
    rw [if_neg hE0, ht, Int.neg_neg, Int.toNat_natCast] at hR
    have hu : u + K + t = v + k + 1 := by omega
    have he := rnd_err Q t
    rw [← hR] at he
    obtain ⟨Z, hZ⟩ : ∃ Z, 2 ^ v = Z := ⟨_, rfl⟩
    obtain ⟨U, hU⟩ : ∃ U, 2 ^ t = U := ⟨_, rfl⟩
    have hU0 : 0 < U := by rw [← hU]; exact Nat.two_pow_pos t
    obtain ⟨A, hA⟩ : ∃ A, m * 2 ^ u * 2 ^ K = A := ⟨_, rfl⟩
    have hu2 : u + (K + t) = v + k + 1 := by omega
    have eA : A * U = 2 * D * Z := by
      rw [← hA, ← hU, Nat.mul_assoc, Nat.mul_assoc, ← Nat.pow_add, ← Nat.pow_add, hu2, ← hD, ← hZ, show v + k + 1 = k + (1 + v) by omega, Nat.pow_add, Nat.pow_add 2 1]
      simp only [Nat.pow_one, Nat.mul_assoc, Nat.mul_left_comm]
    rw [hA, hZ]
    rw [hU] at he
    have h3 : Q * (n * Z) ≤ 2 * D * Z + n * Z := by rw [← Nat.mul_assoc, ← Nat.add_mul]; exact Nat.mul_le_mul_right _ q1
    have h4 : 2 * D * Z ≤ Q * (n * Z) + n * Z := by rw [← Nat.mul_assoc, ← Nat.add_mul]; exact Nat.mul_le_mul_right _ q2
    have h5 : 18014398509481984 * (n * Z) ≤ 2 * D * Z := by rw [← Nat.mul_assoc]; exact Nat.mul_le_mul_right _ q4
    generalize n * Z = c at *
    have hmx : max Q (4503599627370496 * U) * c = max (Q * c) (4503599627370496 * c * U) := by
      rw [← Nat.mul_max_mul_right]
      congr 1
      simp only [Nat.mul_assoc, Nat.mul_left_comm, Nat.mul_comm]
    have ePU : R * c * U = R * U * c := by rw [Nat.mul_assoc, Nat.mul_comm c U, ← Nat.mul_assoc]
    have h1 : 9007199254740992 * (R * c * U) ≤ 9007199254740992 * (Q * c) + max (Q * c) (4503599627370496 * c * U) := by
      have := Nat.mul_le_mul_right c he.1
      rw [Nat.add_mul, hmx, Nat.mul_assoc, Nat.mul_assoc 9007199254740992 Q c] at this
      rw [ePU]; exact this
    have h2 : 9007199254740992 * (Q * c) ≤ 9007199254740992 * (R * c * U) + max (Q * c) (4503599627370496 * c * U) := by
      have := Nat.mul_le_mul_right c he.2
      rw [Nat.add_mul, hmx, Nat.mul_assoc, Nat.mul_assoc 9007199254740992 (R * U) c] at this
      rw [ePU]; exact this
    have hh := quo_lin2 h1 h2 h3 h4 h5
    rw [← eA] at hh
    generalize R * c = P at *
    have f : ∀ a b : Nat, a * U ≤ b * U → a ≤ b := fun a b h => Nat.le_of_mul_le_mul_right h hU0
    refine ⟨f _ _ ?_, f _ _ ?_⟩
    · rw [Nat.add_mul, Nat.add_mul, Nat.mul_assoc, Nat.mul_assoc 9007199254740992 A U, Nat.mul_assoc 2 A U]
      exact hh.1
    · rw [Nat.add_mul, Nat.add_mul, Nat.mul_assoc, Nat.mul_assoc 9007199254740992 P U, Nat.mul_assoc 2 A U]
      exact hh.2
theorem div_back {x y r : Nat} (hy : rung y < INF) (h : double.div x y = some r) (hr : rung r < INF) : rung x < INF := by
  unfold Format.div at h
  obtain ⟨n, v, e2, _⟩ := read_fin hy
  rcases Nat.lt_trichotomy (rung x) INF with hx | hx | hx
  · exact hx
  · rw [read_inf hx, e2] at h
    simp only [Datum.quotient, Option.map_some, Option.some.injEq] at h
    rw [← h, inf_word] at hr; omega
  · rw [read_nan hx, e2] at h
    simp [Datum.quotient] at h
theorem div_err {x y r : Nat} (hx : rung x < INF) (hy : rung y < INF) (h : double.div x y = some r) (hr : rung r < INF) (K : Nat) (hK : K = 1074) :
    9007199254740992 * (val r * val y - val x * ((2 ^ K : Nat) : Int)).natAbs ≤ 2 * (val x * ((2 ^ K : Nat) : Int)).natAbs + 4503599627370496 * (val y).natAbs := by
  obtain ⟨m, u, e, hm⟩ := read_fin hx
  obtain ⟨n, v, e2, hn⟩ := read_fin hy
  unfold Format.div at h
  rw [e, e2] at h
  simp only [Datum.quotient] at h
  by_cases hn0 : n = 0
  · rw [if_pos hn0] at h
    by_cases hm0 : m = 0
    · rw [if_pos hm0] at h; simp at h
    · rw [if_neg hm0] at h
      simp only [Option.map_some, Option.some.injEq] at h
      rw [← h, inf_word] at hr; omega
  · rw [if_neg hn0] at h
    simp only [Option.map_some, Option.some.injEq, Format.write] at h
    obtain ⟨k, hk⟩ : ∃ k, double.fractionBits + 2 + n.log2 - m.log2 = k := ⟨_, rfl⟩
    rw [hk] at h
    have hk2 : 54 + n.log2 - m.log2 ≤ k := Nat.le_of_eq hk
    rw [Nat.shiftLeft_eq] at h
    obtain ⟨Q, hQ⟩ : ∃ Q, 2 * (m * 2 ^ k / n) + ((m * 2 ^ k) % n != 0).toNat = Q := ⟨_, rfl⟩
    rw [hQ, nearest_scl] at h
    obtain ⟨E, hE⟩ : ∃ E : Int, -1074 + (u : Int) - (-1074 + (v : Int)) - (k : Int) - 1 + 1074 = E := ⟨_, rfl⟩
    rw [hE] at h
    unfold scl at h
    obtain ⟨G, hG⟩ : ∃ G, (if 0 ≤ E then rnd (Q * 2 ^ E.toNat) 0 else rnd Q (-E).toNat) = G := ⟨_, rfl⟩
    rw [hG] at h
    rw [← h, rung_wd _ (cap_lt _)] at hr
    have hv : val r = if (sg x ^^ sg y) = true then -(mag G : Int) else (mag G : Int) := by
      rw [← h, val_wd _ (cap_lt _), cap_fin hr]
    have hmain := quo_near (R := mag G) K (Nat.pos_of_ne_zero hn0) hk2 hQ (E := E) (u := u) (v := v) (by rw [← hE, hK]; omega) (by rw [hG])
    rw [hm, hn] at hmain
    have hx' : val x = if sg x then -(mag (rung x) : Int) else (mag (rung x) : Int) := rfl
    have hy' : val y = if sg y then -(mag (rung y) : Int) else (mag (rung y) : Int) := rfl
    rw [hv, hx', hy']
    clear hv hx' hy' h hr hE hG hQ hk hk2 e e2
    generalize mag G = R at *
    generalize mag (rung x) = X at *
    generalize mag (rung y) = Y at *
    generalize 2 ^ K = P at *
    have e1 : (R : Int) * (Y : Int) = ((R * Y : Nat) : Int) := by simp
    have e3 : (X : Int) * (P : Int) = ((X * P : Nat) : Int) := by simp
    cases sg x <;> cases sg y <;> simp only [Bool.xor_false, Bool.xor_true, Bool.false_xor, Bool.true_xor, Bool.not_false, Bool.not_true, if_true, if_false, Bool.false_eq_true, Int.neg_mul, Int.mul_neg, Int.neg_neg, e1, e3] <;> (generalize R * Y = S at *; generalize X * P = V at *; omega)
end Go.Proofs.Ytlhdcajamempoaa.Fl
