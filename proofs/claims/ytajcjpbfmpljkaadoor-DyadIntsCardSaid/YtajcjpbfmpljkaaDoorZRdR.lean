/-
Products of digits, laid place by place. Conditions: none.
-/
import Derived.Test.YtajcjpbfmpljkaaDoorZRdG
set_option linter.unusedVariables false
set_option linter.unusedSimpArgs false
namespace Go.Proofs.YtajcjpbfmpljkaaDoor
open Go.RowKit

/-- A place is added to, and what is too much goes to the next one. -/
theorem put_step {M : List Nat} {j cr s x T : Nat} (hj : j < M.length) (hx : M[j] = x) (h : ofd 65536 M + 65536 ^ j * cr = T) :
    ofd 65536 (M.set j ((cr + s + x) % 65536)) + 65536 ^ (j + 1) * ((cr + s + x) / 65536) = T + 65536 ^ j * s := by
  have h1 := ofd_set 65536 M j ((cr + s + x) % 65536) hj
  rw [hx] at h1
  have h2 : (cr + s + x) % 65536 + 65536 * ((cr + s + x) / 65536) = cr + s + x := Nat.mod_add_div _ _
  generalize ofd 65536 (M.set j ((cr + s + x) % 65536)) = O at *
  generalize (cr + s + x) % 65536 = v1 at *
  generalize (cr + s + x) / 65536 = v2 at *
  rw [Nat.pow_succ]
  generalize 65536 ^ j = P at *
  have e1 : P * 65536 * v2 = P * (65536 * v2) := Nat.mul_assoc ..
  have e2 : P * (v1 + 65536 * v2) = P * v1 + P * (65536 * v2) := Nat.mul_add ..
  have e3 : P * (cr + s + x) = P * cr + P * s + P * x := by rw [Nat.mul_add, Nat.mul_add]
  rw [h2] at e2
  generalize P * 65536 * v2 = y1 at *
  generalize P * (65536 * v2) = y2 at *
  generalize P * v1 = y3 at *
  generalize P * (cr + s + x) = y4 at *
  generalize P * cr = y5 at *
  generalize P * s = y6 at *
  generalize P * x = y7 at *
  omega
theorem put_step0 {M : List Nat} {j cr x T V1 V2 : Nat} (hj : j < M.length) (hx : M[j] = x) (h : ofd 65536 M + 65536 ^ j * cr = T) (h1 : (cr + 0 + x) % 65536 = V1) (h2 : (cr + 0 + x) / 65536 = V2) :
    ofd 65536 (M.set j V1) + 65536 ^ (j + 1) * V2 = T := by
  have := put_step (s := 0) hj hx h
  rw [h1, h2] at this
  generalize 65536 ^ j = P at *
  generalize 65536 ^ (j + 1) = P1 at *
  simpa using this
/-- One digit times a number, so far. -/
def mulT (l l' : List Nat) (a k : Nat) : Nat := ofd 65536 (l.take a) * ofd 65536 l' + 65536 ^ a * (l.getD a 0 * ofd 65536 (l'.take k))
theorem mulT_zero (l l' : List Nat) (a : Nat) : mulT l l' a 0 = ofd 65536 (l.take a) * ofd 65536 l' := by simp [mulT, ofd]
theorem mulT_succ {l l' : List Nat} {a k : Nat} (hk : k < l'.length) : mulT l l' a k + 65536 ^ (a + k) * (l.getD a 0 * l'[k]) = mulT l l' a (k + 1) := by
  unfold mulT
  rw [ofd_take_succ _ _ _ hk, Nat.pow_add, Nat.mul_add, Nat.mul_add, Nat.add_assoc]
  congr 2
  rw [Nat.mul_assoc]
  congr 1
  rw [Nat.mul_left_comm]
theorem mulT_all {l l' : List Nat} {a : Nat} (ha : a < l.length) : mulT l l' a l'.length = ofd 65536 (l.take (a + 1)) * ofd 65536 l' := by
  unfold mulT
  rw [ofd_take_all _ _ _ (Nat.le_refl _), ofd_take_succ _ _ _ ha, Nat.add_mul]
  simp [List.getD, ha, Nat.mul_assoc]
theorem mulT_lt {l l' : List Nat} (h : Digs 65536 l) (h' : Digs 65536 l') {a : Nat} (ha : a < l.length) : ofd 65536 (l.take (a + 1)) * ofd 65536 l' < 65536 ^ (a + 1 + l'.length) := by
  have h1 := ofd_lt (h.take (a + 1))
  have h2 := ofd_lt h'
  rw [List.length_take, Nat.min_eq_left (by omega)] at h1
  rw [Nat.pow_add]
  exact Nat.mul_lt_mul'' h1 h2
/-- Where something is left, there is a place. -/
theorem mul_place {M l' : List Nat} {T K cr a : Nat} (h : ofd 65536 M + 65536 ^ K * cr = T) (hT : T < 65536 ^ (a + 1 + l'.length)) (hc : 0 < cr) : K ≤ a + l'.length := by
  rcases Nat.lt_or_ge (a + l'.length) K with hlt | hge
  · exfalso
    have h1 : 65536 ^ (a + 1 + l'.length) ≤ 65536 ^ K := Nat.pow_le_pow_right (by omega) (by omega)
    have h2 : 65536 ^ K * 1 ≤ 65536 ^ K * cr := Nat.mul_le_mul_left _ hc
    omega
  · exact hge
theorem put_facts {cr x y z : Nat} (hc : cr < 65536) (hx : x < 65536) (hy : y < 65536) (hz : z < 65536) : ∃ S U V V1 V2 : Nat, x * y = S ∧ (x : Int) * (y : Int) = (S : Int) ∧ (cr : Int) + (S : Int) = (U : Int) ∧ (U : Int) + (z : Int) = (V : Int) ∧ IntKind.i64.wrap (S : Int) = (S : Int) ∧ IntKind.i64.wrap (U : Int) = (U : Int) ∧ IntKind.i64.wrap (V : Int) = (V : Int) ∧
    (V : Int) % 65536 = (V1 : Int) ∧ (V : Int) / 65536 = (V2 : Int) ∧ (V : Int).tmod 65536 = (V1 : Int) ∧ (V : Int).tdiv 65536 = (V2 : Int) ∧ V2 < 65536 ∧ V1 < 65536 ∧ (cr + S + z) % 65536 = V1 ∧ (cr + S + z) / 65536 = V2 := by
  have hm : x * y ≤ 65535 * 65535 := Nat.mul_le_mul (by omega) (by omega)
  have he : (x : Int) * (y : Int) = ((x * y : Nat) : Int) := by simp
  obtain ⟨S, hS⟩ : ∃ S, x * y = S := ⟨_, rfl⟩
  rw [hS] at hm he
  have w : ∀ n : Nat, n ≤ 9223372036854775807 → IntKind.i64.wrap (n : Int) = (n : Int) := fun n h => IntWalk.i64_in _ (by omega)
  exact ⟨S, cr + S, cr + S + z, (cr + S + z) % 65536, (cr + S + z) / 65536, hS, he, by omega, by omega, w _ (by omega), w _ (by omega), w _ (by omega), by omega, by omega, by rw [Int.tmod_eq_emod_of_nonneg (by omega)]; omega, by rw [Int.tdiv_eq_ediv_of_nonneg (by omega)]; omega, by omega, by omega, rfl, rfl⟩
theorem put_facts0 {cr z : Nat} (hc : cr < 65536) (hz : z < 65536) : ∃ V V1 V2 : Nat, (cr : Int) + (z : Int) = (V : Int) ∧ IntKind.i64.wrap (V : Int) = (V : Int) ∧ wrap64 (V : Int) = (V : Int) ∧ wrap64 (V2 : Int) = (V2 : Int) ∧
    (V : Int) % 65536 = (V1 : Int) ∧ (V : Int) / 65536 = (V2 : Int) ∧ (V : Int).tmod 65536 = (V1 : Int) ∧ (V : Int).tdiv 65536 = (V2 : Int) ∧ V2 < 65536 ∧ V1 < 65536 ∧ (cr + 0 + z) % 65536 = V1 ∧ (cr + 0 + z) / 65536 = V2 := by
  have w : ∀ n : Nat, n ≤ 9223372036854775807 → IntKind.i64.wrap (n : Int) = (n : Int) := fun n h => IntWalk.i64_in _ (by omega)
  have w' : ∀ n : Nat, n ≤ 9223372036854775807 → wrap64 (n : Int) = (n : Int) := fun n h => by unfold wrap64; omega
  exact ⟨cr + z, (cr + z) % 65536, (cr + z) / 65536, by omega, w _ (by omega), w' _ (by omega), w' _ (by omega), by omega, by omega, by rw [Int.tmod_eq_emod_of_nonneg (by omega)]; omega, by rw [Int.tdiv_eq_ediv_of_nonneg (by omega)]; omega, by omega, by omega, rfl, rfl⟩
theorem dy_mulv (p q : Bool) (l l' M : List Nat) (E E' : Int) (h : ofd 65536 M = ofd 65536 l * ofd 65536 l') : rdy (p != q) M (E + E') = rdy p l E * rdy q l' E' := by
  rw [rdy_sgd, rdy_sgd, rdy_sgd, dy_mul, h, sgd_mul]
  congr 1; omega
end Go.Proofs.YtajcjpbfmpljkaaDoor
