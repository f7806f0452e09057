/-
Whole numbers: sum. Conditions: as each says.
-/
import Derived.Test.YtodoibioedelgaaGbg
import Derived.Deep.OwnRows
import Derived.Deep.DeepCutAuto
import Derived.IntWalk
set_option linter.unusedVariables false
namespace Go.Proofs.Ytodoibioedelgaa
open Go.RowKit
attribute [local go_sem ↓] Go.wp_at_zero Go.wp_at_succ

theorem made_zero (n : Nat) : madeCells #[.int .u64 0] n = (u64s (List.replicate n 0)).toArray := by
  refine Array.ext_getElem? fun i => ?_
  rw [List.getElem?_toArray]
  unfold madeCells u64s
  by_cases h : i < n
  · simp [h, Nat.mod_one]
  · simp [h]
theorem info_u64 : (Try.prog.info? 82).map (fun i => (i.zero, i.size, i.bytes)) = some (some (.int .u64 0), 1, 8) := by kernel_rfl
/-- The slice's elements are the whole numbers. -/
def Wholes (w : World) (b o : Nat) (zs : List Int) : Prop :=
  ∀ (i : Nat) (h : i < zs.length), ∃ A n c, w.cell? ⟨b, o + i * 2, none⟩ = some (.bool (ng zs[i])) ∧ w.cell? ⟨b, o + i * 2 + 1, none⟩ = some (.slice A n c) ∧ Wh w A n c zs[i]
theorem Wholes.below {w w' : World} {b o : Nat} {zs : List Int} (h : Wholes w b o zs) (hb : Below w.heap.size w w') : Wholes w' b o zs := fun i hi => by
  obtain ⟨A, n, c, h1, h2, h3⟩ := h i hi
  exact ⟨A, n, c, cell_below h1 hb, cell_below h2 hb, h3.below hb⟩
/-- The slice's numbers. -/
def Pows (w : World) (b o : Nat) (ps : List Nat) : Prop := ∀ (i : Nat) (h : i < ps.length), w.cell? ⟨b, o + i, none⟩ = some (.int .i64 (ps[i] : Int))
theorem Pows.below {w w' : World} {b o : Nat} {ps : List Nat} (h : Pows w b o ps) (hb : Below w.heap.size w w') : Pows w' b o ps := fun i hi => cell_below (h i hi) hb
/-- How many binary digits the first k numbers reach to. -/
def reach (zs : List Int) (ps : List Nat) : Nat → Nat
  | 0 => 0
  | k + 1 => max (reach zs ps k) (ps.getD k 0 + bl (zs.getD k 0).natAbs)

theorem bl_wl (z : Int) (k : Nat) (h : wl z ≤ k) : bl z.natAbs ≤ 64 * k := by
  have h1 := (wl_le z k).1 h
  by_cases h0 : z.natAbs = 0
  · rw [h0]; simp [bl]
  · obtain ⟨b1, b2⟩ := bl_bounds h0
    have h2 : 2 ^ (bl z.natAbs - 1) < 2 ^ (64 * k) := by
      rw [Nat.pow_mul]; exact Nat.lt_of_le_of_lt b1 h1
    have := (Nat.pow_lt_pow_iff_right (by omega)).1 h2
    omega
theorem reach_succ {zs : List Int} {ps : List Nat} {k : Nat} (h1 : k < zs.length) (h2 : k < ps.length) : reach zs ps (k + 1) = max (reach zs ps k) (ps[k] + bl zs[k].natAbs) := by
  show max _ _ = _
  rw [List.getD_eq_getElem?_getD, List.getD_eq_getElem?_getD, List.getElem?_eq_getElem h1, List.getElem?_eq_getElem h2]
  rfl
/-- The sizes of the numbers that are below 0 (s), or aren't, each at its place. -/
def acc (s : Bool) (zs : List Int) (ps : List Nat) : Nat → Nat
  | 0 => 0
  | k + 1 => acc s zs ps k + if ng (zs.getD k 0) = s then 2 ^ ps.getD k 0 * (zs.getD k 0).natAbs else 0
/-- The sum of the first k numbers, each at its place. -/
def tot (zs : List Int) (ps : List Nat) : Nat → Int
  | 0 => 0
  | k + 1 => tot zs ps k + zs.getD k 0 * 2 ^ ps.getD k 0
theorem tot_acc (zs : List Int) (ps : List Nat) (k : Nat) : tot zs ps k = ((acc false zs ps k : Nat) : Int) - (acc true zs ps k : Nat) := by
  induction k with
  | zero => rfl
  | succ k ih =>
    simp only [tot, acc, ih]
    generalize zs.getD k 0 = z
    generalize ps.getD k 0 = p
    have hc : ((2 ^ p : Nat) : Int) = 2 ^ p := by simp
    by_cases h : z < 0
    · have h1 : ng z = true := by simp [ng, h]
      rw [h1, if_neg (by decide), if_pos rfl, Int.natCast_add, Int.natCast_add, Int.natCast_mul, hc, show ((z.natAbs : Nat) : Int) = -z by omega, Int.mul_neg, Int.mul_comm z]
      simp; omega
    · have h1 : ng z = false := by simp [ng, h]
      rw [h1, if_pos rfl, if_neg (by decide), Int.natCast_add, Int.natCast_add, Int.natCast_mul, hc, show ((z.natAbs : Nat) : Int) = z by omega, Int.mul_comm z]
      simp; omega
theorem reach_le (zs : List Int) (ps : List Nat) (k : Nat) : reach zs ps k ≤ reach zs ps (k + 1) := Nat.le_max_left _ _
theorem reach_mono (zs : List Int) (ps : List Nat) (k n : Nat) (h : k ≤ n) : reach zs ps k ≤ reach zs ps n := by
  induction n with
  | zero => obtain rfl : k = 0 := by omega
            exact Nat.le_refl _
  | succ n ih =>
    by_cases e : k = n + 1
    · subst e; exact Nat.le_refl _
    · exact Nat.le_trans (ih (by omega)) (reach_le _ _ _)
theorem acc_le (s : Bool) (zs : List Int) (ps : List Nat) (k : Nat) : acc s zs ps k ≤ k * 2 ^ reach zs ps k := by
  induction k with
  | zero => simp [acc]
  | succ k ih =>
    have h1 : 2 ^ reach zs ps k ≤ 2 ^ reach zs ps (k + 1) := Nat.pow_le_pow_right (by omega) (reach_le _ _ _)
    have h2 : 2 ^ ps.getD k 0 * (zs.getD k 0).natAbs ≤ 2 ^ reach zs ps (k + 1) := by
      by_cases h0 : (zs.getD k 0).natAbs = 0
      · rw [h0]; simp
      · obtain ⟨b1, b2⟩ := bl_bounds h0
        refine Nat.le_trans (Nat.mul_le_mul_left _ (Nat.le_of_lt b2)) ?_
        rw [← Nat.pow_add]
        exact Nat.pow_le_pow_right (by omega) (Nat.le_max_right _ _)
    have h3 := Nat.mul_le_mul_left k h1
    simp only [acc]
    rw [Nat.add_mul, Nat.one_mul]
    split <;> omega
theorem acc_lt (s : Bool) (zs : List Int) (ps : List Nat) (k n W : Nat) (hk : k ≤ n) (hn : n ≤ 1099511627776) (hW : reach zs ps n / 64 + 2 = W) : acc s zs ps k < Q ^ W := by
  have h1 := acc_le s zs ps k
  have h2 : 2 ^ reach zs ps k ≤ 2 ^ reach zs ps n := Nat.pow_le_pow_right (by omega) (reach_mono _ _ _ _ hk)
  have h3 : k * 2 ^ reach zs ps k ≤ 2 ^ 40 * 2 ^ reach zs ps n := Nat.mul_le_mul (by omega) h2
  have h4 : 2 ^ 40 * 2 ^ reach zs ps n < Q ^ W := by
    rw [Q_pow, ← Nat.pow_mul, ← Nat.pow_add]
    exact Nat.pow_lt_pow_right (by omega) (by omega)
  omega
theorem acc_step (s : Bool) {zs : List Int} {ps : List Nat} {k : Nat} (h1 : k < zs.length) (h2 : k < ps.length) : acc s zs ps (k + 1) = acc s zs ps k + if ng zs[k] = s then 2 ^ ps[k] * zs[k].natAbs else 0 := by
  simp only [acc]
  rw [List.getD_eq_getElem?_getD, List.getD_eq_getElem?_getD, List.getElem?_eq_getElem h1, List.getElem?_eq_getElem h2]
  rfl
/-- The two lists that are summed up, when k numbers are in. -/
def Acc2 (zs : List Int) (ps : List Nat) (W k : Nat) (M1 M2 : List Nat) : Prop :=
  Digs Q M1 ∧ Digs Q M2 ∧ M1.length = W ∧ M2.length = W ∧ ofd Q M1 = acc false zs ps k ∧ ofd Q M2 = acc true zs ps k
theorem Acc2.start (zs : List Int) (ps : List Nat) (W : Nat) : Acc2 zs ps W 0 (List.replicate W 0) (List.replicate W 0) :=
  ⟨Digs.replicate (by unfold Q; omega) _, Digs.replicate (by unfold Q; omega) _, by simp, by simp, ofd_replicate _ _, ofd_replicate _ _⟩
theorem max_i64 (R p L : Nat) (h : p + L ≤ 26388279066624) : (if (R : Int) < IntKind.i64.wrap ((p : Int) + (L : Int)) then IntKind.i64.wrap ((p : Int) + (L : Int)) else (R : Int)) = ((max R (p + L) : Nat) : Int) := by
  have e : IntKind.i64.wrap ((p : Int) + (L : Int)) = (p : Int) + (L : Int) := IntWalk.i64_in _ (by omega)
  rw [e]; split <;> omega
end Go.Proofs.Ytodoibioedelgaa
