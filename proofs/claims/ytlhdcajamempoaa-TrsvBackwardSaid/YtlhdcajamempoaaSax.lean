/-
Sums' Asum and Most. Conditions: the list has at most 2^20 numbers.
-/
import Derived.Test.YtlhdcajamempoaaZSmB
import Derived.Test.YtlhdcajamempoaaZRdO
import Derived.Test.YtlhdcajamempoaaSan
import Derived.Test.YtlhdcajamempoaaSaw
import Derived.Test.YtlhdcajamempoaaZTrP
set_option linter.unusedVariables false
set_option linter.unusedSimpArgs false
set_option linter.unnecessarySimpa false
namespace Go.Proofs.Ytlhdcajamempoaa
open Go.RowKit
attribute [local go_sem ↓] Go.wp_at_zero Go.wp_at_succ

theorem asum_step {l : List Nat} {k s r a : Nat} (hs : Is s (asumF l k)) (ha : l.getD k 0 = a) (hr : Comes .add s (absW a) r) : Is r (asumF l (k + 1)) := by
  show Is r (fbin .add (asumF l k) (absW (l.getD k 0)))
  rw [ha]
  exact hr.is_ hs (Is.refl (by have := absW_lt a; omega))

/-- The place that is told: -1 of no numbers. -/
def mostI (l : List Nat) : Int := if l.length = 0 then -1 else (mostF l l.length : Int)
end Go.Proofs.Ytlhdcajamempoaa
/-
The document's Asum, Most, Dot. Conditions: the lists have at most 2^20 numbers.
-/
set_option linter.unusedVariables false
set_option linter.unusedSimpArgs false
set_option linter.unnecessarySimpa false
namespace Go.Proofs.Ytlhdcajamempoaa
open Go.RowKit
attribute [local go_sem ↓] Go.wp_at_zero Go.wp_at_succ

theorem getD_wds {l : List Nat} (h : Wds l) (k : Nat) : l.getD k 0 < 18446744073709551616 := by
  rcases Nat.lt_or_ge k l.length with h1 | h1
  · rw [getD_of_lt h1]; exact h.at_ k h1
  · rw [getD_of_le h1]; omega
theorem Row.get0 {w : World} {A : Option Addr} {l : List Nat} {k : Nat} (h : Row w A (f64s l)) (hk : k < l.length) : ∃ b o, A = some ⟨b, o, none⟩ ∧ w.cell? ⟨b, o + k, none⟩ = some (.float .f64 (l.getD k 0)) := by
  obtain ⟨b, o, e, _, hc⟩ := h.at_ (f64s_get l k hk)
  exact ⟨b, o, e, by rw [getD_of_lt hk]; exact hc⟩

end Go.Proofs.Ytlhdcajamempoaa
/-
The document's Dot. Conditions: at most 65536 finite numbers each.
-/
set_option linter.unusedVariables false
set_option linter.unusedSimpArgs false
set_option linter.unnecessarySimpa false
namespace Go.Proofs.Ytlhdcajamempoaa
open Go.RowKit
attribute [local go_sem ↓] Go.wp_at_zero Go.wp_at_succ

theorem dotA_le (K : Nat) (hK : K = 2098) (l m : List Nat) : ∀ n, (∀ k, k < n → Fl.rung (l.getD k 0) < Fl.INF) → (∀ k, k < n → Fl.rung (m.getD k 0) < Fl.INF) → dotA l m n ≤ n * (2 ^ K * 2 ^ K)
  | 0, _, _ => by simp [dotA]
  | n + 1, h, h' => by
    have ih := dotA_le K hK l m n (fun k hk => h k (by omega)) (fun k hk => h' k (by omega))
    have h1 := val_lt_big K hK (h n (by omega))
    have h2 := val_lt_big K hK (h' n (by omega))
    have h3 : (Fl.val (l.getD n 0) * Fl.val (m.getD n 0)).natAbs ≤ 2 ^ K * 2 ^ K := by
      rw [Int.natAbs_mul]; exact Nat.mul_le_mul (Nat.le_of_lt h1) (Nat.le_of_lt h2)
    show dotA l m n + (Fl.val (l.getD n 0) * Fl.val (m.getD n 0)).natAbs ≤ _
    rw [Nat.add_mul, Nat.one_mul]
    omega
theorem dot_fit {l m : List Nat} {n : Nat} (h : ∀ k, k < n → Fl.rung (l.getD k 0) < Fl.INF) (h' : ∀ k, k < n → Fl.rung (m.getD k 0) < Fl.INF) (hn : n ≤ 65536) : Fitd (dy (dotE l m n) (-2148)) := by
  obtain ⟨K, hK⟩ : ∃ K, K = 2098 := ⟨_, rfl⟩
  have h1 := dotA_le K hK l m n h h'
  have h2 := dotE_le l m n
  have h3 : n * (2 ^ K * 2 ^ K) ≤ 65536 * (2 ^ K * 2 ^ K) := Nat.mul_le_mul_right _ hn
  have h4 : 65536 * (2 ^ K * 2 ^ K) < 2 ^ (17 + (K + K)) := by
    rw [Nat.pow_add, Nat.pow_add]
    have : 0 < 2 ^ K * 2 ^ K := Nat.mul_pos (Nat.two_pow_pos K) (Nat.two_pow_pos K)
    generalize 2 ^ K * 2 ^ K = P at *
    omega
  exact fitd_of (j := 17 + (K + K)) (by omega) (by omega) (by omega)
theorem fdy_mul (x y : Nat) : fdy x * fdy y = dy (Fl.val x * Fl.val y) (-2148) := by unfold fdy; rw [dy_mul]; rfl
theorem prod_fit {x y : Nat} (h : Fl.rung x < Fl.INF) (h' : Fl.rung y < Fl.INF) : Fitd (fdy x * fdy y) := by
  obtain ⟨K, hK⟩ : ∃ K, K = 2098 := ⟨_, rfl⟩
  have h1 := val_lt_big K hK h
  have h2 := val_lt_big K hK h'
  rw [fdy_mul]
  refine fitd_of (j := K + K) ?_ (by omega) (by omega)
  rw [Int.natAbs_mul, Nat.pow_add]
  exact Nat.mul_lt_mul'' h1 h2

end Go.Proofs.Ytlhdcajamempoaa
/-
How large a number is, and how fine: what is made of numbers lies in few digits. Conditions: none.
-/
set_option linter.unusedVariables false
namespace Go.Proofs.Ytlhdcajamempoaa
open Go.RowKit

/-- Below 2^k, and a multiple of 2^-k. -/
def Sz (k : Nat) (d : Dyadic) : Prop := ∃ m : Int, d = dy m (-(k : Int)) ∧ m.natAbs < 2 ^ (2 * k)
theorem Sz.fit {k : Nat} {d : Dyadic} (h : Sz k d) (hk : k ≤ 134217720) : Fitd d := by
  obtain ⟨m, rfl, hm⟩ := h
  exact fitd_of hm (by omega) (by omega)
theorem Sz.mono {j k : Nat} {d : Dyadic} (h : Sz j d) (hk : j ≤ k) : Sz k d := by
  obtain ⟨m, rfl, hm⟩ := h
  refine ⟨m * 2 ^ (k - j), by rw [dy_pow]; congr 1; omega, ?_⟩
  have e : ((2 : Int) ^ (k - j)).natAbs = 2 ^ (k - j) := by rw [Int.natAbs_pow]; rfl
  rw [Int.natAbs_mul, e]
  have h1 : m.natAbs * 2 ^ (k - j) < 2 ^ (2 * j) * 2 ^ (k - j) := Nat.mul_lt_mul_of_pos_right hm (Nat.two_pow_pos _)
  rw [← Nat.pow_add] at h1
  exact Nat.lt_of_lt_of_le h1 (Nat.pow_le_pow_right (by omega) (by omega))
theorem Sz.add_ {k : Nat} {a b : Dyadic} (h : Sz k a) (h' : Sz k b) : Sz (k + 1) (a + b) := by
  obtain ⟨m, rfl, hm⟩ := h
  obtain ⟨n, rfl, hn⟩ := h'
  refine ⟨(m + n) * 2 ^ 1, by rw [dy_add, dy_pow]; congr 1; omega, ?_⟩
  rw [show 2 * (k + 1) = 2 * k + 2 by omega, Nat.pow_add]
  generalize 2 ^ (2 * k) = P at *
  omega
theorem Sz.add {j k n : Nat} {a b : Dyadic} (h : Sz j a) (h' : Sz k b) (hj : j < n) (hk : k < n) : Sz n (a + b) := by
  obtain ⟨n', rfl⟩ : ∃ n', n = n' + 1 := ⟨n - 1, by omega⟩
  exact (h.mono (by omega)).add_ (h'.mono (by omega))
theorem Sz.neg {k : Nat} {a : Dyadic} (h : Sz k a) : Sz k (-a) := by
  obtain ⟨m, rfl, hm⟩ := h
  exact ⟨-m, by rw [dy_neg], by omega⟩
theorem Sz.sub {j k n : Nat} {a b : Dyadic} (h : Sz j a) (h' : Sz k b) (hj : j < n) (hk : k < n) : Sz n (a - b) := Sz.add h h'.neg hj hk
theorem Sz.abs {k : Nat} {a : Dyadic} (h : Sz k a) : Sz k (dabs a) := by
  obtain ⟨m, rfl, hm⟩ := h
  exact ⟨m.natAbs, by rw [dabs_dy], by omega⟩
theorem Sz.mul {j k n : Nat} {a b : Dyadic} (h : Sz j a) (h' : Sz k b) (hn : j + k ≤ n) : Sz n (a * b) := by
  refine Sz.mono (j := j + k) ?_ hn
  obtain ⟨m, rfl, hm⟩ := h
  obtain ⟨q, rfl, hq⟩ := h'
  refine ⟨m * q, by rw [dy_mul]; congr 1; omega, ?_⟩
  rw [Int.natAbs_mul, show 2 * (j + k) = 2 * j + 2 * k by omega, Nat.pow_add]
  exact Nat.mul_lt_mul'' hm hq
theorem Sz.int {z : Int} {k : Nat} (h : z.natAbs < 2 ^ k) : Sz k (dy z 0) := by
  refine ⟨z * 2 ^ k, by rw [dy_pow]; congr 1; omega, ?_⟩
  have e : ((2 : Int) ^ k).natAbs = 2 ^ k := by rw [Int.natAbs_pow]; rfl
  rw [Int.natAbs_mul, e, show 2 * k = k + k by omega, Nat.pow_add]
  exact Nat.mul_lt_mul_of_pos_right h (Nat.two_pow_pos _)
theorem Sz.pow (s : Int) : Sz (s.natAbs + 1) (dy 1 s) := by
  obtain ⟨t, ht⟩ : ∃ t : Nat, (t : Int) = s + ((s.natAbs + 1 : Nat) : Int) := ⟨(s + ((s.natAbs + 1 : Nat) : Int)).toNat, by omega⟩
  refine ⟨1 * 2 ^ t, by rw [dy_pow]; congr 1; omega, ?_⟩
  have e : ((2 : Int) ^ t).natAbs = 2 ^ t := by rw [Int.natAbs_pow]; rfl
  rw [Int.natAbs_mul, e, show (1 : Int).natAbs = 1 from rfl, Nat.one_mul]
  exact Nat.pow_lt_pow_right (by omega) (by omega)
theorem Sz.shift {j n : Nat} {a : Dyadic} (h : Sz j a) (s : Int) (hn : j + s.natAbs + 1 ≤ n) : Sz n (a * dy 1 s) := h.mul (Sz.pow s) (by omega)
theorem Sz.float {b : Nat} (h : Fl.rung b < Fl.INF) : Sz 1074 (fdy b) := by
  obtain ⟨K, hK⟩ : ∃ K, K = 2098 := ⟨_, rfl⟩
  obtain ⟨J, hJ⟩ : ∃ J, J = 1074 := ⟨_, rfl⟩
  rw [← hJ]
  refine ⟨Fl.val b, by unfold fdy; congr 1; omega, ?_⟩
  exact Nat.lt_of_lt_of_le (val_lt_big K hK h) (Nat.pow_le_pow_right (by omega) (by omega))
theorem Sz.zero (k : Nat) : Sz k 0 := ⟨0, by rw [dy_zero], Nat.two_pow_pos _⟩
/-- A box that a pointer points to, made behind lo. -/
def NewB (W : World) (v : Value) (lo : Nat) : Prop := ∃ (g : Nat) (x0 x1 x2 : Value), v = .pointer (some ⟨g, 0, none⟩) ∧ Blk W g 63 #[x0, x1, x2] ∧ lo ≤ g
theorem NewB.below {W W' : World} {v : Value} {lo : Nat} (h : NewB W v lo) (hb : Below W.heap.size W W') : NewB W' v lo := by
  obtain ⟨g, x0, x1, x2, h1, h2, h3⟩ := h
  exact ⟨g, x0, x1, x2, h1, h2.next hb, h3⟩
/-- A pointer to a box that holds the number. -/
def BxP (W : World) (v : Value) (lo : Nat) (d : Dyadic) : Prop := ∃ g : Nat, v = .pointer (some ⟨g, 0, none⟩) ∧ Bx W g d ∧ lo ≤ g
theorem BxP.below {W W' : World} {v : Value} {lo : Nat} {d : Dyadic} (h : BxP W v lo d) (hb : Below W.heap.size W W') : BxP W' v lo d := by
  obtain ⟨g, h1, h2, h3⟩ := h
  exact ⟨g, h1, h2.below hb, h3⟩
end Go.Proofs.Ytlhdcajamempoaa
/-
TrsvBackward: each row is near; the exact numbers, their sizes, the comparison. Conditions: as each says.
-/
set_option linter.unusedVariables false
set_option linter.unusedSimpArgs false
set_option linter.unnecessarySimpa false
namespace Go.Proofs.Ytlhdcajamempoaa
open Go.RowKit

theorem val_one9 (k : Nat) (hk : k = 1074) : Fl.val 4607182418800017408 = ((2 ^ k : Nat) : Int) := by
  have e1 : Fl.rung 4607182418800017408 = 4607182418800017408 := by decide
  have e2 : Fl.sg 4607182418800017408 = false := by decide
  have e3 : Fl.mag 4607182418800017408 = 2 ^ k := by
    have e4 : 4607182418800017408 / 4503599627370496 - 1 = 1022 := by decide
    have e5 : 4503599627370496 + 4607182418800017408 % 4503599627370496 = 2 ^ 52 := by decide
    obtain ⟨j, hj⟩ : ∃ j, 4607182418800017408 / 4503599627370496 - 1 = j := ⟨_, rfl⟩
    unfold Fl.mag
    rw [if_neg (by omega), hj, e5, ← Nat.pow_add, show 52 + j = k by omega]
  unfold Fl.val
  rw [e2, e1, e3]
  rfl
/-- A solved system is a solved system nearby: row i. -/
theorem tr_backward {kd n i : Nat} (hk : kd = 1 ∨ kd = 2 ∨ kd = 3 ∨ kd = 4) (hn : n ≤ 10) (hi : i < n) {a : Nat → Nat → Nat} {b : Nat → Nat} {E : Nat → Nat → Nat} {F : Nat → Nat} (hS : TrS kd n a b E F) (h1 : kd = 1 ∨ kd = 3 → a i i = 4607182418800017408) (hd : Fl.rung (a i i) < Fl.INF) (hF : Fl.rung (F i) < Fl.INF) :
    4503599627370496 * (Fl.val (b i) * ((2 ^ 1074 : Nat) : Int) - colI (trT kd i) (fun j => Fl.val (a i j) * Fl.val (F j)) n).natAbs ≤ (n + 1) * (2 * colN (trT kd i) (fun j => Fl.val (a i j) * Fl.val (F j)) n + 73786976294838206464 * (2 ^ 1074 + (Fl.val (a i i)).natAbs)) := by
  have hlast := hS.last i hi
  have hm : trC kd n i ≤ n - 1 := by unfold trC; split <;> omega
  have key : Fl.rung (E i (trC kd n i)) < Fl.INF ∧ 9007199254740992 * (Fl.val (F i) * Fl.val (a i i) - Fl.val (E i (trC kd n i)) * ((2 ^ 1074 : Nat) : Int)).natAbs ≤ 2 * (Fl.val (E i (trC kd n i)) * ((2 ^ 1074 : Nat) : Int)).natAbs + 4503599627370496 * (Fl.val (a i i)).natAbs := by
    unfold trD at hlast
    by_cases h24 : kd = 2 ∨ kd = 4
    · rw [if_pos h24] at hlast
      have hq := fbin_some (op := .quo) (x := E i (trC kd n i)) (y := a i i) hlast.symm hF
      have hq : Ieee.double.div (E i (trC kd n i)) (a i i) = some (F i) := hq
      have hx := Fl.div_back hd hq hF
      exact ⟨hx, Fl.div_err hx hd hq hF 1074 rfl⟩
    · rw [if_neg h24] at hlast
      rw [h1 (by omega), val_one9 1074 rfl, ← hlast]
      refine ⟨hF, ?_⟩
      rw [Int.sub_self]
      exact Nat.le_trans (Nat.le_of_eq (show 9007199254740992 * (0 : Int).natAbs = 0 from rfl)) (Nat.zero_le _)
  obtain ⟨hfe, hdiv⟩ := key
  obtain ⟨_, hr⟩ := tr_resid (E i) (fun t => a i (trO kd n i t)) (fun t => F (trO kd n i t)) (trC kd n i) (fun t ht => hS.step i hi t ht) hfe (trC kd n i) 0 (by omega) (by omega)
  rw [hS.zero i hi] at hr
  have hrow := tr_row hr hdiv (by omega : trC kd n i ≤ n)
  obtain ⟨c1, c2⟩ := col_steps hk hi (fun j => Fl.val (a i j) * Fl.val (F j))
  rw [c1, c2]
  have e1 : ∀ x y z w : Int, x - (y + z * w) = x - y - w * z := fun x y z w => by rw [Int.mul_comm w z]; omega
  have e2 : (Fl.val (a i i) * Fl.val (F i)).natAbs = (Fl.val (F i) * Fl.val (a i i)).natAbs := by rw [Int.mul_comm]
  show _ * (_ - (_ + Fl.val (a i i) * Fl.val (F i))).natAbs ≤ (n + 1) * (2 * (_ + (Fl.val (a i i) * Fl.val (F i)).natAbs) + _)
  rw [e1, e2, Nat.add_comm (sufN _ _ _)]
  exact hrow

/-- The exact number after so many columns; the sum without signs; the diagonal. -/
def EXd (T : Nat → Bool) (b : Nat) (v x : Nat → Nat) : Nat → Dyadic
  | 0 => -(fdy b)
  | k + 1 => if T k = true then EXd T b v x k + fdy (v k) * fdy (x k) else EXd T b v x k
def SXd (T : Nat → Bool) (v x : Nat → Nat) : Nat → Dyadic
  | 0 => 0
  | k + 1 => if T k = true then SXd T v x k + dabs (fdy (v k) * fdy (x k)) else SXd T v x k
def GXd (T : Nat → Bool) (i : Nat) (v : Nat → Nat) : Nat → Dyadic
  | 0 => dy 1 0
  | k + 1 => if T k = true ∧ i = k then GXd T i v k + dabs (fdy (v k)) else GXd T i v k
theorem fdy_2148b (b K : Nat) (hK : K = 1074) : fdy b = dy (Fl.val b * 2 ^ K) (-2148) := by unfold fdy; rw [dy_pow]; congr 1; omega
theorem exd_dy (T : Nat → Bool) (b : Nat) (v x : Nat → Nat) (K : Nat) (hK : K = 1074) : ∀ k, EXd T b v x k = dy (-(Fl.val b * 2 ^ K) + colI T (fun j => Fl.val (v j) * Fl.val (x j)) k) (-2148)
  | 0 => by
    show -(fdy b) = dy (-(Fl.val b * 2 ^ K) + 0) (-2148)
    rw [Int.add_zero, fdy_2148b b K hK, dy_neg]
  | k + 1 => by
    show (if T k = true then EXd T b v x k + fdy (v k) * fdy (x k) else EXd T b v x k) = dy (-(Fl.val b * 2 ^ K) + (if T k = true then colI T (fun j => Fl.val (v j) * Fl.val (x j)) k + Fl.val (v k) * Fl.val (x k) else colI T (fun j => Fl.val (v j) * Fl.val (x j)) k)) (-2148)
    rw [exd_dy T b v x K hK k, fdy_mul]
    split
    · rw [dy_add, Int.add_assoc]
    · rfl
theorem sxd_dy (T : Nat → Bool) (v x : Nat → Nat) : ∀ k, SXd T v x k = dy ((colN T (fun j => Fl.val (v j) * Fl.val (x j)) k : Nat) : Int) (-2148)
  | 0 => (dy_zero _).symm
  | k + 1 => by
    show (if T k = true then SXd T v x k + dabs (fdy (v k) * fdy (x k)) else SXd T v x k) = dy (((if T k = true then colN T (fun j => Fl.val (v j) * Fl.val (x j)) k + (Fl.val (v k) * Fl.val (x k)).natAbs else colN T (fun j => Fl.val (v j) * Fl.val (x j)) k) : Nat) : Int) (-2148)
    rw [sxd_dy T v x k, fdy_mul, dabs_dy]
    split
    · rw [dy_add, Int.natCast_add]
    · rfl
theorem gxd_low (T : Nat → Bool) (i : Nat) (v : Nat → Nat) : ∀ k, k ≤ i → GXd T i v k = dy 1 0
  | 0, _ => rfl
  | k + 1, h => by
    show (if T k = true ∧ i = k then _ else _) = _
    rw [if_neg (fun e => by omega)]
    exact gxd_low T i v k (by omega)
theorem gxd_high (T : Nat → Bool) (i : Nat) (v : Nat → Nat) (hT : T i = true) : ∀ j, GXd T i v (i + 1 + j) = dy 1 0 + dabs (fdy (v i))
  | 0 => by
    show (if T i = true ∧ i = i then GXd T i v i + dabs (fdy (v i)) else GXd T i v i) = _
    rw [if_pos ⟨hT, rfl⟩, gxd_low T i v i (Nat.le_refl _)]
  | j + 1 => by
    show (if T (i + 1 + j) = true ∧ i = i + 1 + j then _ else GXd T i v (i + 1 + j)) = _
    rw [if_neg (fun e => by omega)]
    exact gxd_high T i v hT j
theorem exd_sz {T : Nat → Bool} {b : Nat} {v x : Nat → Nat} {n : Nat} (hb : Fl.rung b < Fl.INF) (hv : ∀ k, k < n → Fl.rung (v k) < Fl.INF) (hx : ∀ k, k < n → Fl.rung (x k) < Fl.INF) : ∀ k, k ≤ n → Sz (2149 + k) (EXd T b v x k) ∧ Sz (2149 + k) (SXd T v x k)
  | 0, _ => ⟨((Sz.float hb).neg).mono (by omega), Sz.zero _⟩
  | k + 1, h => by
    obtain ⟨h1, h2⟩ := exd_sz (T := T) hb hv hx k (by omega)
    have hp : Sz 2148 (fdy (v k) * fdy (x k)) := (Sz.float (hv k (by omega))).mul (Sz.float (hx k (by omega))) (by omega)
    constructor
    · show Sz _ (if T k = true then EXd T b v x k + fdy (v k) * fdy (x k) else EXd T b v x k)
      split
      · exact Sz.add h1 hp (by omega) (by omega)
      · exact h1.mono (by omega)
    · show Sz _ (if T k = true then SXd T v x k + dabs (fdy (v k) * fdy (x k)) else SXd T v x k)
      split
      · exact Sz.add h2 hp.abs (by omega) (by omega)
      · exact h2.mono (by omega)
theorem gxd_sz {T : Nat → Bool} {i : Nat} {v : Nat → Nat} {n : Nat} (hv : ∀ k, k < n → Fl.rung (v k) < Fl.INF) : ∀ k, k ≤ n → Sz (1075 + k) (GXd T i v k)
  | 0, _ => (Sz.int (k := 1) (by decide)).mono (by omega)
  | k + 1, h => by
    have h1 := gxd_sz (T := T) (i := i) hv k (by omega)
    show Sz _ (if T k = true ∧ i = k then GXd T i v k + dabs (fdy (v k)) else GXd T i v k)
    split
    · exact Sz.add h1 (Sz.float (hv k (by omega))).abs (by omega) (by omega)
    · exact h1.mono (by omega)
theorem trb_cast (B P A n M : Nat) : ((B : Int) + (((M * P : Nat) : Int) + (A : Int) * (M : Int))) * ((n : Int) + 1) = (((B + M * P + M * A) * (n + 1) : Nat) : Int) := by push_cast; rw [Int.mul_comm (A : Int), Int.add_assoc]
/-- The comparison comes out. -/
theorem trb_cmp {T : Nat → Bool} {i n b : Nat} {v x : Nat → Nat} (hT : T i = true) (hi : i < n)
    (h : 4503599627370496 * (Fl.val b * ((2 ^ 1074 : Nat) : Int) - colI T (fun j => Fl.val (v j) * Fl.val (x j)) n).natAbs ≤ (n + 1) * (2 * colN T (fun j => Fl.val (v j) * Fl.val (x j)) n + 73786976294838206464 * (2 ^ 1074 + (Fl.val (v i)).natAbs))) :
    ∃ Z : Int, dabs (EXd T b v x n) - ((SXd T v x n * dy 1 (-51) + GXd T i v n * dy 1 (-1060)) * dy ((n : Int) + 1) 0) = dy Z (-2199) ∧ Z ≤ 0 := by
  obtain ⟨K, hK⟩ : ∃ K, K = 1074 := ⟨_, rfl⟩
  rw [← hK] at h
  have hG : GXd T i v n = dy 1 0 + dabs (fdy (v i)) := by
    have := gxd_high T i v hT (n - (i + 1))
    rwa [show i + 1 + (n - (i + 1)) = n by omega] at this
  have e8 : fdy (v i) = dy (Fl.val (v i)) (-1074) := rfl
  have e3 : dy 1 0 * dy 1 (-1060) = dy (1 * 2 ^ (K + 65)) (-2199) := by rw [dy_one, dy_pow]; congr 1; omega
  have e9 : ∀ q : Int, dy q (-1074) * dy 1 (-1060) = dy (q * 2 ^ 65) (-2199) := fun q => by rw [dy_one, dy_pow]; congr 1
  have e4 : ∀ q : Int, dy q (-2148) = dy (q * 2 ^ 51) (-2199) := fun q => by rw [dy_pow]; congr 1
  have hdist : ∀ p q r : Dyadic, (p + q) * r = p * r + q * r := fun p q r => Dyadic.add_mul _ _ _
  rw [hG, e8, dabs_dy, hdist (dy 1 0), e3, e9, exd_dy T b v x K hK n, sxd_dy T v x n, dabs_dy, dy_one, show ((-2148 : Int) + -51) = -2199 by omega, dy_add, dy_add, dy_mul, Int.add_zero, e4, dy_sub]
  refine ⟨_, rfl, ?_⟩
  have e2 : ((2 ^ K : Nat) : Int) = (2 : Int) ^ K := by simp
  rw [e2] at h
  have e5 : (1 : Int) * 2 ^ (K + 65) = ((36893488147419103232 * 2 ^ K : Nat) : Int) := by
    rw [Int.one_mul, Int.pow_add]
    have : (2 : Int) ^ 65 = 36893488147419103232 := by decide
    rw [this]
    simp [Int.mul_comm]
  have e7 : (2 : Int) ^ 51 = 2251799813685248 := by decide
  have e10 : (2 : Int) ^ 65 = 36893488147419103232 := by decide
  have e6 : (-(Fl.val b * 2 ^ K) + colI T (fun j => Fl.val (v j) * Fl.val (x j)) n).natAbs = (Fl.val b * 2 ^ K - colI T (fun j => Fl.val (v j) * Fl.val (x j)) n).natAbs := by
    generalize Fl.val b * 2 ^ K = p
    generalize colI T (fun j => Fl.val (v j) * Fl.val (x j)) n = q
    omega
  rw [e5, e7, e10, e6]
  generalize (Fl.val b * 2 ^ K - colI T (fun j => Fl.val (v j) * Fl.val (x j)) n).natAbs = D at *
  generalize colN T (fun j => Fl.val (v j) * Fl.val (x j)) n = B at *
  generalize (Fl.val (v i)).natAbs = A at *
  generalize 2 ^ K = P at *
  have h3 : ((B : Int) + (((36893488147419103232 * P : Nat) : Int) + (A : Int) * 36893488147419103232)) * ((n : Int) + 1) = (((B + 36893488147419103232 * P + 36893488147419103232 * A) * (n + 1) : Nat) : Int) := trb_cast B P A n 36893488147419103232
  have h4 : (n + 1) * (2 * B + 73786976294838206464 * (P + A)) = 2 * ((B + 36893488147419103232 * P + 36893488147419103232 * A) * (n + 1)) := by
    rw [Nat.mul_comm, ← Nat.mul_assoc]
    congr 1
    omega
  rw [h4] at h
  rw [h3]
  generalize (B + 36893488147419103232 * P + 36893488147419103232 * A) * (n + 1) = U at *
  clear h3 h4
  omega
theorem dv_zero9 (W : World) : DV W (.agg #[.bool false, .slice none 0 0, .int .i64 0]) 0 := ⟨false, none, 0, 0, 0, [], rfl, ⟨rfl, Nat.le_refl _, Row.nil _ _, Digs.nil _, fun _ _ e => by cases e⟩, .inl ⟨rfl, rfl, rfl⟩, by rw [rdy_nil]⟩
end Go.Proofs.Ytlhdcajamempoaa
