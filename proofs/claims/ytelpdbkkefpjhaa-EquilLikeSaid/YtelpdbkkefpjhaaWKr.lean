/-
How large a number is, and how fine: what is made of numbers lies in few digits. Conditions: none.
-/
import Derived.Test.YtelpdbkkefpjhaaWKq
import Derived.Test.YtelpdbkkefpjhaaZKEqH
import Derived.Test.YtelpdbkkefpjhaaWKn
import Ieee.Arith
set_option linter.unusedVariables false
namespace Go.Proofs.Ytelpdbkkefpjhaa
open Go.RowKit

/-- Below 2^k, and a multiple of 2^-k. -/
def Sz (k : Nat) (d : Dyadic) : Prop := ∃ m : Int, d = dy m (-(k : Int)) ∧ m.natAbs < 2 ^ (2 * k)
theorem Sz.mono {j k : Nat} {d : Dyadic} (h : Sz j d) (hk : j ≤ k) : Sz k d := by
  obtain ⟨m, rfl, hm⟩ := h
  refine ⟨m * 2 ^ (k - j), by rw [dy_pow]; congr 1; omega, ?_⟩
  have e : ((2 : Int) ^ (k - j)).natAbs = 2 ^ (k - j) := by rw [Int.natAbs_pow]; rfl
  rw [Int.natAbs_mul, e]
  have h1 : m.natAbs * 2 ^ (k - j) < 2 ^ (2 * j) * 2 ^ (k - j) := Nat.mul_lt_mul_of_pos_right hm (Nat.two_pow_pos _)
  rw [← Nat.pow_add] at h1
  exact Nat.lt_of_lt_of_le h1 (Nat.pow_le_pow_right (by omega) (by omega))
theorem Sz.add_ {k : Nat} {a b : Dyadic} (h : Sz k a) (h' : Sz k b) : Sz (k + 1) (a + b) := by
  obtain ⟨m, rfl, hm⟩ := h
  obtain ⟨n, rfl, hn⟩ := h'
  refine ⟨(m + n) * 2 ^ 1, by rw [dy_add, dy_pow]; congr 1; omega, ?_⟩
  rw [show 2 * (k + 1) = 2 * k + 2 by omega, Nat.pow_add]
  generalize 2 ^ (2 * k) = P at *
  omega
theorem Sz.add {j k n : Nat} {a b : Dyadic} (h : Sz j a) (h' : Sz k b) (hj : j < n) (hk : k < n) : Sz n (a + b) := by
  obtain ⟨n', rfl⟩ : ∃ n', n = n' + 1 := ⟨n - 1, by omega⟩
  exact (h.mono (by omega)).add_ (h'.mono (by omega))
theorem Sz.neg {k : Nat} {a : Dyadic} (h : Sz k a) : Sz k (-a) := by
  obtain ⟨m, rfl, hm⟩ := h
  exact ⟨-m, by rw [dy_neg], by omega⟩
theorem Sz.sub {j k n : Nat} {a b : Dyadic} (h : Sz j a) (h' : Sz k b) (hj : j < n) (hk : k < n) : Sz n (a - b) := Sz.add h h'.neg hj hk
theorem Sz.mul {j k n : Nat} {a b : Dyadic} (h : Sz j a) (h' : Sz k b) (hn : j + k ≤ n) : Sz n (a * b) := by
  refine Sz.mono (j := j + k) ?_ hn
  obtain ⟨m, rfl, hm⟩ := h
  obtain ⟨q, rfl, hq⟩ := h'
  refine ⟨m * q, by rw [dy_mul]; congr 1; omega, ?_⟩
  rw [Int.natAbs_mul, show 2 * (j + k) = 2 * j + 2 * k by omega, Nat.pow_add]
  exact Nat.mul_lt_mul'' hm hq
theorem Sz.int {z : Int} {k : Nat} (h : z.natAbs < 2 ^ k) : Sz k (dy z 0) := by
  refine ⟨z * 2 ^ k, by rw [dy_pow]; congr 1; omega, ?_⟩
  have e : ((2 : Int) ^ k).natAbs = 2 ^ k := by rw [Int.natAbs_pow]; rfl
  rw [Int.natAbs_mul, e, show 2 * k = k + k by omega, Nat.pow_add]
  exact Nat.mul_lt_mul_of_pos_right h (Nat.two_pow_pos _)
theorem Sz.float {b : Nat} (h : Fl.rung b < Fl.INF) : Sz 1074 (fdy b) := by
  obtain ⟨K, hK⟩ : ∃ K, K = 2098 := ⟨_, rfl⟩
  obtain ⟨J, hJ⟩ : ∃ J, J = 1074 := ⟨_, rfl⟩
  rw [← hJ]
  refine ⟨Fl.val b, by unfold fdy; congr 1; omega, ?_⟩
  exact Nat.lt_of_lt_of_le (val_lt_big K hK h) (Nat.pow_le_pow_right (by omega) (by omega))
theorem Sz.zero (k : Nat) : Sz k 0 := ⟨0, by rw [dy_zero], Nat.two_pow_pos _⟩
/-- A box that a pointer points to, made behind lo. -/
def NewB (W : World) (v : Value) (lo : Nat) : Prop := ∃ (g : Nat) (x0 x1 x2 : Value), v = .pointer (some ⟨g, 0, none⟩) ∧ Blk W g 69 #[x0, x1, x2] ∧ lo ≤ g
theorem NewB.below {W W' : World} {v : Value} {lo : Nat} (h : NewB W v lo) (hb : Below W.heap.size W W') : NewB W' v lo := by
  obtain ⟨g, x0, x1, x2, h1, h2, h3⟩ := h
  exact ⟨g, x0, x1, x2, h1, h2.next hb, h3⟩
/-- A pointer to a box that holds the number. -/
def BxP (W : World) (v : Value) (lo : Nat) (d : Dyadic) : Prop := ∃ g : Nat, v = .pointer (some ⟨g, 0, none⟩) ∧ Bx W g d ∧ lo ≤ g
theorem BxP.below {W W' : World} {v : Value} {lo : Nat} {d : Dyadic} (h : BxP W v lo d) (hb : Below W.heap.size W W') : BxP W' v lo d := by
  obtain ⟨g, h1, h2, h3⟩ := h
  exact ⟨g, h1, h2.below hb, h3⟩
end Go.Proofs.Ytelpdbkkefpjhaa
/-
Equil: whether scaling is exact: pure. Conditions: as each says.
-/
set_option linter.unusedVariables false
set_option linter.unusedSimpArgs false
set_option linter.unnecessarySimpa false
namespace Go.Proofs.Ytelpdbkkefpjhaa
open Go.RowKit

theorem scale_ne {x : Nat} {k : Int} (h0 : Fl.rung x ≠ 0) (h1 : Fl.rung x < Fl.INF) : Fl.scale x k = Fl.wd (Fl.sg x) (Fl.scl (Fl.mag (Fl.rung x)) k) := by unfold Fl.scale; rw [if_neg (by omega)]
theorem scale_zero {x : Nat} {k : Int} (h0 : Fl.rung x = 0) : Fl.scale x k = x := by unfold Fl.scale; rw [if_pos (.inl h0)]
theorem bndI_small {k : Int} (h : -1073741824 ≤ k ∧ k ≤ 1073741824) : bndI k = k := by unfold bndI; rw [if_neg (by omega), if_neg (by omega)]
theorem shfE_small {r c : Int} (h1 : -10000 ≤ r ∧ r ≤ 10000) (h2 : -10000 ≤ c ∧ c ≤ 10000) : shfE r c = r + c := by
  unfold shfE
  rw [bndI_small (k := r) (by omega), bndI_small (k := c) (by omega), bndI_small (by omega)]

/-- A number scaled; is it what it was, taken back? -/
def sclX (zr zc : List Int) (X : Nat → Nat → Nat) (i j : Nat) : Nat := Fl.scale (X i j) (shfE (zr.getD i 0) (zc.getD j 0))
theorem SclS.at_ {zr zc : List Int} {l : List Nat} {o R C L D N : Nat} {M : List Nat} (h : SclS zr zc l o R C L D N M) {i j : Nat} (hi : i < R) (hj : j < C) : M.getD (0 + i + j * D) 0 = sclX zr zc (tX l o L) i j := by rw [Nat.zero_add, h.2 i hi j hj]; rfl
end Go.Proofs.Ytelpdbkkefpjhaa
