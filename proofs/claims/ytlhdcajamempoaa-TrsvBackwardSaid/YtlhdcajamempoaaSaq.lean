/-
Whole numbers: window. Conditions: as each says.
-/
import Derived.Test.YtlhdcajamempoaaSap
import Derived.Test.YtlhdcajamempoaaSao
import Derived.Deep.RegionWith
import Derived.Shelf.Spec.BitsCarry
import Derived.Deep.OwnRows
import Derived.Deep.DeepCutAuto
import Derived.IntWalk
import Derived.Shelf.Spec.TrailingZeros
import Derived.Lib.LaidTab
import Derived.Lib.ItoaNum
set_option linter.unusedVariables false
namespace Go.Proofs.Ytlhdcajamempoaa
open Go.RowKit
attribute [local go_sem ↓] ib_or

theorem orU_comm (a b : Nat) (ha : a < 18446744073709551616) (hb : b < 18446744073709551616) : orU (a : Int) (b : Int) = orU (b : Int) (a : Int) := by
  unfold orU; rw [u64_or_nat a b ha hb, u64_or_nat b a hb ha, Nat.or_comm]
/-- The window of 64 binary digits from place k on. -/
def win (x k : Nat) : Nat := x / 2 ^ k % 18446744073709551616
theorem win_lt (x k : Nat) : win x k < 18446744073709551616 := Nat.mod_lt _ (by omega)
theorem pow_split (i s : Nat) : 2 ^ (64 * i + s) = Q ^ i * 2 ^ s := by rw [Q_pow, ← Nat.pow_mul, Nat.pow_add]
theorem win_far {x k n i s : Nat} (hk : k = 64 * i + s) (hx : x < Q ^ n) (hi : n ≤ i) : win x k = 0 := by
  unfold win
  rw [hk, pow_split, ← Nat.div_div_eq_div_mul]
  have : Q ^ n ≤ Q ^ i := Nat.pow_le_pow_right (by have := Q_two; omega) hi
  rw [Nat.div_eq_of_lt (Nat.lt_of_lt_of_le hx this), Nat.zero_div]
theorem win_two {x k i s : Nat} (hk : k = 64 * i + s) (hs : s < 64) {d e : Nat} (hd : x / Q ^ i % Q = d) (he : x / Q ^ (i + 1) % Q = e) :
    win x k = d / 2 ^ s + e * 2 ^ (64 - s) % 18446744073709551616 := by
  unfold win
  rw [hk, pow_split, ← Nat.div_div_eq_div_mul]
  rw [Nat.pow_succ, ← Nat.div_div_eq_div_mul] at he
  generalize x / Q ^ i = y at *
  have hq : Q = 18446744073709551616 := rfl
  have e1 : y = d + Q * (e + Q * (y / Q / Q)) := by
    have h1 := Nat.mod_add_div y Q
    have h2 := Nat.mod_add_div (y / Q) Q
    rw [hd] at h1; rw [he] at h2
    rw [h2, h1]
  generalize y / Q / Q = r at *
  have hdq : d < Q := by rw [← hd]; exact Nat.mod_lt _ (by rw [hq]; omega)
  have hsplit : Q = 2 ^ s * 2 ^ (64 - s) := by rw [← Nat.pow_add, show s + (64 - s) = 64 by omega]; rfl
  have e2 : y / 2 ^ s = d / 2 ^ s + 2 ^ (64 - s) * (e + Q * r) := by
    rw [e1]
    have : Q * (e + Q * r) = 2 ^ s * (2 ^ (64 - s) * (e + Q * r)) := by rw [← Nat.mul_assoc, ← hsplit]
    rw [this, Nat.add_mul_div_left _ _ (Nat.two_pow_pos s)]
  rw [e2]
  have h3 : d / 2 ^ s < 2 ^ (64 - s) := by
    rw [Nat.div_lt_iff_lt_mul (Nat.two_pow_pos s), Nat.mul_comm, ← hsplit]; exact hdq
  have e3 : 2 ^ (64 - s) * (e + Q * r) = e * 2 ^ (64 - s) + 18446744073709551616 * (2 ^ (64 - s) * r) := by rw [hq]; grind
  rw [e3, ← Nat.add_assoc, Nat.add_mul_mod_self_left, Nat.add_mod]
  have h4 : d / 2 ^ s < 18446744073709551616 := by
    have := Nat.div_le_self d (2 ^ s); rw [hq] at hdq; omega
  rw [Nat.mod_eq_of_lt h4]
  -- the upper part is a multiple of 2^(64-s)
  have h5 : e * 2 ^ (64 - s) % 18446744073709551616 = e % 2 ^ s * 2 ^ (64 - s) := by
    rw [← hq, hsplit, Nat.mul_mod_mul_right]
  rw [h5]
  refine Nat.mod_eq_of_lt ?_
  have h6 : e % 2 ^ s < 2 ^ s := Nat.mod_lt _ (Nat.two_pow_pos s)
  have h7 : (e % 2 ^ s + 1) * 2 ^ (64 - s) ≤ 2 ^ s * 2 ^ (64 - s) := Nat.mul_le_mul_right _ h6
  rw [← hsplit, hq, Nat.add_mul] at h7
  omega
theorem win_or {d e s : Nat} (hs : s < 64) (hd : d < 18446744073709551616) : orU ((d / 2 ^ s : Nat) : Int) ((e * 2 ^ (64 - s) % 18446744073709551616 : Nat) : Int) = ((d / 2 ^ s + e * 2 ^ (64 - s) % 18446744073709551616 : Nat) : Int) := by
  have hsplit : 18446744073709551616 = 2 ^ s * 2 ^ (64 - s) := by rw [← Nat.pow_add, show s + (64 - s) = 64 by omega]
  have h4 : d / 2 ^ s < 18446744073709551616 := by have := Nat.div_le_self d (2 ^ s); omega
  have h5 : e * 2 ^ (64 - s) % 18446744073709551616 < 18446744073709551616 := Nat.mod_lt _ (by omega)
  have h6 : e * 2 ^ (64 - s) % 18446744073709551616 % 2 ^ (64 - s) = 0 := by
    rw [hsplit, Nat.mul_mod_mul_right]; simp
  have h7 : d / 2 ^ s < 2 ^ (64 - s) := by
    rw [Nat.div_lt_iff_lt_mul (Nat.two_pow_pos s), Nat.mul_comm, ← hsplit]; exact hd
  rw [orU_comm _ _ h4 h5, orU_nat (64 - s) h5 h4 h7 h6, Nat.add_comm]
theorem dig_get (z : Int) (i : Nat) (h : i < (dig z).length) : (dig z)[i] = z.natAbs / Q ^ i % Q := by
  have := ofd_get Q_two (dig_lt z) i
  rw [ofd_dig, getD_of h] at this
  exact this
theorem dig_beyond (z : Int) (n i : Nat) (hn : n = wl z) (h : n ≤ i) : z.natAbs / Q ^ i % Q = 0 := by
  have := (wl_le z i).1 (by omega)
  rw [Nat.div_eq_of_lt this]; simp

theorem win_cast {d s : Nat} : ((d : Int) / 2 ^ s) = ((d / 2 ^ s : Nat) : Int) := by
  rw [Int.natCast_ediv]; simp
theorem win_cast2 {e s : Nat} : IntKind.u64.wrap ((e : Int) * 2 ^ s) = ((e * 2 ^ s % 18446744073709551616 : Nat) : Int) := by
  rw [IntKind.wrap_u64, Int.natCast_emod]; simp

end Go.Proofs.Ytlhdcajamempoaa
/-
Whole numbers: add. Conditions: as each says.
-/
set_option linter.unusedVariables false
namespace Go.Proofs.Ytlhdcajamempoaa
open Go.RowKit
attribute [local go_sem ↓] Go.wp_at_zero Go.wp_at_succ
attribute [local go_sem ↓] ib_or

theorem u64s_arr (M : List Nat) (i : Nat) (h : i < M.length) : (u64s M).toArray[i]? = some (.int .u64 (M[i] : Int)) := by
  rw [List.getElem?_toArray]; exact u64s_get M i h
theorem u64s_set (M : List Nat) (i v : Nat) : (u64s M).toArray.setIfInBounds i (.int .u64 (v : Int)) = (u64s (M.set i v)).toArray := by
  simp [u64s, List.map_set]

theorem or_word {d b s : Nat} (hs : s < 64) (hb : b < 2 ^ s) : orU (IntKind.u64.wrap ((d : Int) * 2 ^ s)) (b : Int) = ((d * 2 ^ s % Q + b : Nat) : Int) := by
  obtain ⟨r1, r2⟩ := shl_room (d := d) hs hb
  rw [win_cast2, ← Q_val]
  have hq := Q_val
  exact orU_nat s (by omega) (by omega) hb r2

/-- What add came to. -/
def Added (g n : Nat) (t : TypeId) (T : Nat) (w w' : World) : Prop := ∃ M, Digs Q M ∧ M.length = n ∧ ofd Q M = T ∧ Blk w' g t (u64s M).toArray ∧ Only g w w'
end Go.Proofs.Ytlhdcajamempoaa
/-
Whole numbers: difference. Conditions: as each says.
-/
set_option linter.unusedVariables false
namespace Go.Proofs.Ytlhdcajamempoaa
open Go.RowKit
attribute [local go_sem ↓] Go.wp_at_zero Go.wp_at_succ

theorem compl_word {x : Nat} (hx : x < Q) : bits .xor .u64 IntKind.u64.max (x : Int) = ((Q - 1 - x : Nat) : Int) := by
  have hq := Q_val
  show IntKind.u64.wrap ((BitVec.ofInt 64 18446744073709551615 ^^^ BitVec.ofInt 64 (x : Int)).toNat : Int) = _
  have e1 : BitVec.ofInt 64 18446744073709551615 = BitVec.allOnes 64 := by decide
  have e2 : (BitVec.ofInt 64 (x : Int)).toNat = x := by
    rw [BitVec.ofInt_natCast, BitVec.toNat_ofNat]; exact Nat.mod_eq_of_lt (by omega)
  rw [e1, BitVec.allOnes_xor, BitVec.toNat_not, e2, IntKind.wrap_u64]
  omega

/-- What difference came to. -/
def Differ (g : Nat) (z : Int) (w : World) (e : Ending) (w' : World) : Prop := ∃ A n c, e = .returned (.agg #[.bool (ng z), .slice A n c]) ∧ Wh w' A n c z ∧ Only g w w'
theorem Differ.mk_ {g : Nat} {z : Int} {w w' : World} {a : Bool} {A : Option Addr} {n c : Nat} (ha : ng z = a) (h : Wh w' A n c z) (hb : Only g w w') : Differ g z w (.returned (.agg #[.bool a, .slice A n c])) w' := by
  subst ha; exact ⟨A, n, c, rfl, h, hb⟩
theorem Only.alloc {g : Nat} {w w' : World} (h : Only g w w') (o : Obj) : Only g w (w'.alloc o) :=
  ⟨h.os, h.tape, h.output, Nat.le_trans h.size (by simp), fun i hi hne => (Below.heap_alloc w' o i (Nat.lt_of_lt_of_le hi h.size)).trans (h.block i hi hne)⟩
theorem Only.new_ {g : Nat} {w w' : World} (h : Only g w w') (i : Nat) (u : Value) (k : Nat) (hk : w.heap.size ≤ k) : Only g w (w'.setCell ⟨k, i, none⟩ u) :=
  ⟨h.os, h.tape, h.output, by simpa [World.setCell] using h.size, fun j hj hne => (Below.heap_setCell w' _ u j (by simp; omega)).trans (h.block j hj hne)⟩

theorem row_blk {w : World} {g : Nat} {t : TypeId} {M : List Nat} (h : Blk w g t (u64s M).toArray) : Row w (some ⟨g, 0, none⟩) (u64s M) :=
  .inr ⟨g, 0, rfl, fun i v hi => by rw [Nat.zero_add, h.cell i]; simpa using hi⟩
end Go.Proofs.Ytlhdcajamempoaa
/-
Whole numbers: sum. Conditions: as each says.
-/
set_option linter.unusedVariables false
namespace Go.Proofs.Ytlhdcajamempoaa
open Go.RowKit
attribute [local go_sem ↓] Go.wp_at_zero Go.wp_at_succ

theorem made_zero (n : Nat) : madeCells #[.int .u64 0] n = (u64s (List.replicate n 0)).toArray := by
  refine Array.ext_getElem? fun i => ?_
  rw [List.getElem?_toArray]
  unfold madeCells u64s
  by_cases h : i < n
  · simp [h, Nat.mod_one]
  · simp [h]
theorem info_u64 : (Try.prog.info? 95).map (fun i => (i.zero, i.size, i.bytes)) = some (some (.int .u64 0), 1, 8) := by kernel_rfl
/-- The slice's elements are the whole numbers. -/
def Wholes (w : World) (b o : Nat) (zs : List Int) : Prop :=
  ∀ (i : Nat) (h : i < zs.length), ∃ A n c, w.cell? ⟨b, o + i * 2, none⟩ = some (.bool (ng zs[i])) ∧ w.cell? ⟨b, o + i * 2 + 1, none⟩ = some (.slice A n c) ∧ Wh w A n c zs[i]
theorem Wholes.below {w w' : World} {b o : Nat} {zs : List Int} (h : Wholes w b o zs) (hb : Below w.heap.size w w') : Wholes w' b o zs := fun i hi => by
  obtain ⟨A, n, c, h1, h2, h3⟩ := h i hi
  exact ⟨A, n, c, cell_below h1 hb, cell_below h2 hb, h3.below hb⟩
/-- The slice's numbers. -/
def Pows (w : World) (b o : Nat) (ps : List Nat) : Prop := ∀ (i : Nat) (h : i < ps.length), w.cell? ⟨b, o + i, none⟩ = some (.int .i64 (ps[i] : Int))
theorem Pows.below {w w' : World} {b o : Nat} {ps : List Nat} (h : Pows w b o ps) (hb : Below w.heap.size w w') : Pows w' b o ps := fun i hi => cell_below (h i hi) hb
/-- How many binary digits the first k numbers reach to. -/
def reach (zs : List Int) (ps : List Nat) : Nat → Nat
  | 0 => 0
  | k + 1 => max (reach zs ps k) (ps.getD k 0 + bl (zs.getD k 0).natAbs)

theorem bl_wl (z : Int) (k : Nat) (h : wl z ≤ k) : bl z.natAbs ≤ 64 * k := by
  have h1 := (wl_le z k).1 h
  by_cases h0 : z.natAbs = 0
  · rw [h0]; simp [bl]
  · obtain ⟨b1, b2⟩ := bl_bounds h0
    have h2 : 2 ^ (bl z.natAbs - 1) < 2 ^ (64 * k) := by
      rw [Nat.pow_mul]; exact Nat.lt_of_le_of_lt b1 h1
    have := (Nat.pow_lt_pow_iff_right (by omega)).1 h2
    omega
theorem reach_succ {zs : List Int} {ps : List Nat} {k : Nat} (h1 : k < zs.length) (h2 : k < ps.length) : reach zs ps (k + 1) = max (reach zs ps k) (ps[k] + bl zs[k].natAbs) := by
  show max _ _ = _
  rw [List.getD_eq_getElem?_getD, List.getD_eq_getElem?_getD, List.getElem?_eq_getElem h1, List.getElem?_eq_getElem h2]
  rfl
/-- The sizes of the numbers that are below 0 (s), or aren't, each at its place. -/
def acc (s : Bool) (zs : List Int) (ps : List Nat) : Nat → Nat
  | 0 => 0
  | k + 1 => acc s zs ps k + if ng (zs.getD k 0) = s then 2 ^ ps.getD k 0 * (zs.getD k 0).natAbs else 0
/-- The sum of the first k numbers, each at its place. -/
def tot (zs : List Int) (ps : List Nat) : Nat → Int
  | 0 => 0
  | k + 1 => tot zs ps k + zs.getD k 0 * 2 ^ ps.getD k 0
theorem tot_acc (zs : List Int) (ps : List Nat) (k : Nat) : tot zs ps k = ((acc false zs ps k : Nat) : Int) - (acc true zs ps k : Nat) := by
  induction k with
  | zero => rfl
  | succ k ih =>
    simp only [tot, acc, ih]
    generalize zs.getD k 0 = z
    generalize ps.getD k 0 = p
    have hc : ((2 ^ p : Nat) : Int) = 2 ^ p := by simp
    by_cases h : z < 0
    · have h1 : ng z = true := by simp [ng, h]
      rw [h1, if_neg (by decide), if_pos rfl, Int.natCast_add, Int.natCast_add, Int.natCast_mul, hc, show ((z.natAbs : Nat) : Int) = -z by omega, Int.mul_neg, Int.mul_comm z]
      simp; omega
    · have h1 : ng z = false := by simp [ng, h]
      rw [h1, if_pos rfl, if_neg (by decide), Int.natCast_add, Int.natCast_add, Int.natCast_mul, hc, show ((z.natAbs : Nat) : Int) = z by omega, Int.mul_comm z]
      simp; omega
theorem reach_le (zs : List Int) (ps : List Nat) (k : Nat) : reach zs ps k ≤ reach zs ps (k + 1) := Nat.le_max_left _ _
theorem reach_mono (zs : List Int) (ps : List Nat) (k n : Nat) (h : k ≤ n) : reach zs ps k ≤ reach zs ps n := by
  induction n with
  | zero => obtain rfl : k = 0 := by omega
            exact Nat.le_refl _
  | succ n ih =>
    by_cases e : k = n + 1
    · subst e; exact Nat.le_refl _
    · exact Nat.le_trans (ih (by omega)) (reach_le _ _ _)
theorem acc_le (s : Bool) (zs : List Int) (ps : List Nat) (k : Nat) : acc s zs ps k ≤ k * 2 ^ reach zs ps k := by
  induction k with
  | zero => simp [acc]
  | succ k ih =>
    have h1 : 2 ^ reach zs ps k ≤ 2 ^ reach zs ps (k + 1) := Nat.pow_le_pow_right (by omega) (reach_le _ _ _)
    have h2 : 2 ^ ps.getD k 0 * (zs.getD k 0).natAbs ≤ 2 ^ reach zs ps (k + 1) := by
      by_cases h0 : (zs.getD k 0).natAbs = 0
      · rw [h0]; simp
      · obtain ⟨b1, b2⟩ := bl_bounds h0
        refine Nat.le_trans (Nat.mul_le_mul_left _ (Nat.le_of_lt b2)) ?_
        rw [← Nat.pow_add]
        exact Nat.pow_le_pow_right (by omega) (Nat.le_max_right _ _)
    have h3 := Nat.mul_le_mul_left k h1
    simp only [acc]
    rw [Nat.add_mul, Nat.one_mul]
    split <;> omega
theorem acc_lt (s : Bool) (zs : List Int) (ps : List Nat) (k n W : Nat) (hk : k ≤ n) (hn : n ≤ 1099511627776) (hW : reach zs ps n / 64 + 2 = W) : acc s zs ps k < Q ^ W := by
  have h1 := acc_le s zs ps k
  have h2 : 2 ^ reach zs ps k ≤ 2 ^ reach zs ps n := Nat.pow_le_pow_right (by omega) (reach_mono _ _ _ _ hk)
  have h3 : k * 2 ^ reach zs ps k ≤ 2 ^ 40 * 2 ^ reach zs ps n := Nat.mul_le_mul (by omega) h2
  have h4 : 2 ^ 40 * 2 ^ reach zs ps n < Q ^ W := by
    rw [Q_pow, ← Nat.pow_mul, ← Nat.pow_add]
    exact Nat.pow_lt_pow_right (by omega) (by omega)
  omega
theorem acc_step (s : Bool) {zs : List Int} {ps : List Nat} {k : Nat} (h1 : k < zs.length) (h2 : k < ps.length) : acc s zs ps (k + 1) = acc s zs ps k + if ng zs[k] = s then 2 ^ ps[k] * zs[k].natAbs else 0 := by
  simp only [acc]
  rw [List.getD_eq_getElem?_getD, List.getD_eq_getElem?_getD, List.getElem?_eq_getElem h1, List.getElem?_eq_getElem h2]
  rfl
/-- The two lists that are summed up, when k numbers are in. -/
def Acc2 (zs : List Int) (ps : List Nat) (W k : Nat) (M1 M2 : List Nat) : Prop :=
  Digs Q M1 ∧ Digs Q M2 ∧ M1.length = W ∧ M2.length = W ∧ ofd Q M1 = acc false zs ps k ∧ ofd Q M2 = acc true zs ps k
theorem Acc2.start (zs : List Int) (ps : List Nat) (W : Nat) : Acc2 zs ps W 0 (List.replicate W 0) (List.replicate W 0) :=
  ⟨Digs.replicate (by unfold Q; omega) _, Digs.replicate (by unfold Q; omega) _, by simp, by simp, ofd_replicate _ _, ofd_replicate _ _⟩
theorem max_i64 (R p L : Nat) (h : p + L ≤ 26388279066624) : (if (R : Int) < IntKind.i64.wrap ((p : Int) + (L : Int)) then IntKind.i64.wrap ((p : Int) + (L : Int)) else (R : Int)) = ((max R (p + L) : Nat) : Int) := by
  have e : IntKind.i64.wrap ((p : Int) + (L : Int)) = (p : Int) + (L : Int) := IntWalk.i64_in _ (by omega)
  rw [e]; split <;> omega
end Go.Proofs.Ytlhdcajamempoaa
/-
Whole numbers: plus, evens. Conditions: as each says; the tables of the library are as its text lays them.
-/
set_option linter.unusedVariables false
namespace Go.Proofs.Ytlhdcajamempoaa
open Go.RowKit
attribute [local go_sem ↓] Go.wp_at_zero Go.wp_at_succ

theorem cells4 {w : World} {g : Nat} {t : TypeId} {v0 v1 v2 v3 : Value} (h : Blk w g t #[v0, v1, v2, v3]) :
    w.cell? ⟨g, 0, none⟩ = some v0 ∧ w.cell? ⟨g, 1, none⟩ = some v1 ∧ w.cell? ⟨g, 2, none⟩ = some v2 ∧ w.cell? ⟨g, 3, none⟩ = some v3 ∧
      w.frozen? ⟨g, 0, none⟩ = false ∧ w.frozen? ⟨g, 1, none⟩ = false ∧ w.frozen? ⟨g, 2, none⟩ = false ∧ w.frozen? ⟨g, 3, none⟩ = false :=
  ⟨h.cell 0, h.cell 1, h.cell 2, h.cell 3, h.frozen 0, h.frozen 1, h.frozen 2, h.frozen 3⟩
theorem cells2 {w : World} {g : Nat} {t : TypeId} {v0 v1 : Value} (h : Blk w g t #[v0, v1]) :
    w.cell? ⟨g, 0, none⟩ = some v0 ∧ w.cell? ⟨g, 1, none⟩ = some v1 ∧ w.frozen? ⟨g, 0, none⟩ = false ∧ w.frozen? ⟨g, 1, none⟩ = false :=
  ⟨h.cell 0, h.cell 1, h.frozen 0, h.frozen 1⟩
theorem odd_unique {m n a b : Nat} (h : m * 2 ^ a = n * 2 ^ b) (hm : m % 2 = 1) (hn : n % 2 = 1) : a = b ∧ m = n := by
  have key : ∀ {m n a b : Nat}, m * 2 ^ a = n * 2 ^ b → m % 2 = 1 → n % 2 = 1 → a ≤ b → a = b ∧ m = n := by
    intro m n a b h hm hn hab
    have e : 2 ^ b = 2 ^ a * 2 ^ (b - a) := by rw [← Nat.pow_add]; congr 1; omega
    rw [e, ← Nat.mul_assoc, Nat.mul_right_comm] at h
    have h2 := Nat.eq_of_mul_eq_mul_right (Nat.two_pow_pos a) h
    rcases Nat.eq_zero_or_pos (b - a) with h0 | h0
    · rw [h0] at h2; exact ⟨by omega, by simpa using h2⟩
    · rw [show b - a = (b - a - 1) + 1 by omega, Nat.pow_succ, ← Nat.mul_assoc] at h2
      omega
  rcases Nat.le_total a b with hab | hab
  · exact key h hm hn hab
  · obtain ⟨e1, e2⟩ := key h.symm hn hm hab
    exact ⟨e1.symm, e2.symm⟩
theorem ctz_of {x m s : Nat} (hx : x < 18446744073709551616) (h : x = m * 2 ^ s) (hm : m % 2 = 1) : Lib.ctz 64 x = s := by
  have h0 : x ≠ 0 := by
    have := Nat.two_pow_pos s
    rw [h]; exact Nat.mul_ne_zero (by omega) (by omega)
  unfold Lib.ctz
  rw [if_neg h0]
  obtain ⟨k, e, _⟩ := Lib.ctzFrom_spec 64 x (by omega) hx
  have e2 : (2 * k + 1) * 2 ^ Lib.ctzFrom 64 x = m * 2 ^ s := by rw [← h, Nat.mul_comm]; exact e.symm
  exact (odd_unique e2 (by omega) hm).1

end Go.Proofs.Ytlhdcajamempoaa
/-
Whole numbers: evens, halved. Conditions: as each says.
-/
set_option linter.unusedVariables false
namespace Go.Proofs.Ytlhdcajamempoaa
open Go.RowKit
attribute [local go_sem ↓] Go.wp_at_zero Go.wp_at_succ

theorem ev_low {x m v j : Nat} (hx : x = m * 2 ^ v) (hj : j < v / 64) : x / Q ^ j % Q = 0 := by
  have e : 2 ^ v = 2 ^ (v - 64 * (j + 1)) * Q * Q ^ j := by
    rw [Nat.mul_assoc, Nat.mul_comm Q, ← Nat.pow_succ, Q_pow, ← Nat.pow_mul, ← Nat.pow_add]; congr 1; omega
  rw [hx, e, ← Nat.mul_assoc, Nat.mul_div_cancel _ (Nat.pow_pos (by unfold Q; omega)), ← Nat.mul_assoc, Nat.mul_mod_left]
theorem ev_at {x m v : Nat} (hx : x = m * 2 ^ v) : x / Q ^ (v / 64) % Q = m % 2 ^ (64 - v % 64) * 2 ^ (v % 64) := by
  have e : 2 ^ v = 2 ^ (v % 64) * Q ^ (v / 64) := by
    rw [Q_pow, ← Nat.pow_mul, ← Nat.pow_add]; congr 1; omega
  have e2 : Q = 2 ^ (64 - v % 64) * 2 ^ (v % 64) := by
    rw [← Nat.pow_add, show 64 - v % 64 + v % 64 = 64 by omega]; rfl
  rw [hx, e, ← Nat.mul_assoc, Nat.mul_div_cancel _ (Nat.pow_pos (by unfold Q; omega)), e2, Nat.mul_mod_mul_right]
theorem odd_mod {m k : Nat} (hm : m % 2 = 1) (hk : 1 ≤ k) : m % 2 ^ k % 2 = 1 := by
  have : 2 ∣ 2 ^ k := by
    rw [show k = (k - 1) + 1 by omega, Nat.pow_succ]; exact Nat.dvd_mul_left _ _
  rw [Nat.mod_mod_of_dvd _ this, hm]

/-- What halved has laid after k words. -/
def HalfW (x W k : Nat) (M : List Nat) : Prop := Digs Q M ∧ M.length = W ∧ ofd Q (M.take k) = x % Q ^ k
theorem HalfW.start (x W : Nat) : HalfW x W 0 (List.replicate W 0) := ⟨Digs.replicate (by unfold Q; omega) _, by simp, by simp [ofd, Nat.mod_one]⟩
theorem HalfW.step {x W k : Nat} {M : List Nat} (h : HalfW x W k M) (hk : k < W) : HalfW x W (k + 1) (M.set k (x / Q ^ k % Q)) := by
  obtain ⟨h1, h2, h3⟩ := h
  refine ⟨h1.set k (Nat.mod_lt _ (by unfold Q; omega)), by simpa using h2, ?_⟩
  rw [ofd_take_set Q M k _ (by omega), h3, Nat.mod_pow_succ]
theorem HalfW.done {x W : Nat} {M : List Nat} (h : HalfW x W W M) (hx : x < Q ^ W) : ofd Q M = x := by
  obtain ⟨h1, h2, h3⟩ := h
  rw [ofd_take_all _ _ _ (by omega), Nat.mod_eq_of_lt hx] at h3
  exact h3
theorem win_half {x y v i : Nat} (h : x = y * 2 ^ v) : win x (v + i * 64) = y / Q ^ i % Q := by
  unfold win
  rw [Nat.pow_add, ← Nat.div_div_eq_div_mul, h, Nat.mul_div_cancel _ (Nat.two_pow_pos v), Nat.mul_comm i, Nat.pow_mul]
  rfl
theorem bl_mul {m v : Nat} (h : m ≠ 0) : bl (m * 2 ^ v) = bl m + v := by
  obtain ⟨b1, b2⟩ := bl_bounds h
  have hb : 0 < bl m := by unfold bl; rw [if_neg h]; omega
  have := bl_unique (n := m * 2 ^ v) (k := bl m - 1 + v) (by rw [Nat.pow_add]; exact Nat.mul_le_mul_right _ b1) (by
    rw [show bl m - 1 + v + 1 = bl m + v by omega, Nat.pow_add]; exact Nat.mul_lt_mul_of_pos_right b2 (Nat.two_pow_pos v))
  rw [this]; omega
theorem bl_room {m W : Nat} (hW : (bl m + 63) / 64 = W) : m < Q ^ W := by
  by_cases h : m = 0
  · rw [h]; exact Nat.pow_pos (by unfold Q; omega)
  · obtain ⟨b1, b2⟩ := bl_bounds h
    rw [Q_pow, ← Nat.pow_mul]
    exact Nat.lt_of_lt_of_le b2 (Nat.pow_le_pow_right (by omega) (by omega))
end Go.Proofs.Ytlhdcajamempoaa
/-
Whole numbers: halved. Conditions: as each says.
-/
set_option linter.unusedVariables false
namespace Go.Proofs.Ytlhdcajamempoaa
open Go.RowKit
attribute [local go_sem ↓] Go.wp_at_zero Go.wp_at_succ

end Go.Proofs.Ytlhdcajamempoaa
