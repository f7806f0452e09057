/-
Dense: a new matrix with the numbers that are told, row by row. Conditions: the words are below 2^64, the list's length below 2^63.
-/
import Derived.Test.YtbjopdnfjjcpoaaZVwB
set_option linter.unusedVariables false
namespace Go.Proofs.Ytbjopdnfjjcpoaa
open Go.RowKit
attribute [local go_sem ↓] Go.wp_at_zero Go.wp_at_succ

theorem fmade_zero (n : Nat) : madeCells #[.float .f64 0] n = (f64s (List.replicate n 0)).toArray := by
  refine Array.ext_getElem? fun i => ?_
  rw [List.getElem?_toArray]
  unfold madeCells f64s
  by_cases h : i < n
  · simp [h, Nat.mod_one]
  · simp [h]
theorem info_f64 : (Try.prog.info? 39).map (fun i => (i.zero, i.size, i.bytes)) = some (some (.float .f64 0), 1, 8) := by kernel_rfl
theorem frun_make (n : Nat) (hn : n ≤ 1099511627776) (W : World) :
    (Instr.makeSlice 22 (.int .i64 (n : Int)) (.int .i64 (n : Int))).run Try.prog W = .ok (.slice (some ⟨W.heap.size, 0, none⟩) n n) (W.alloc (.cells (f64s (List.replicate n 0)).toArray 39)) := by
  rw [← fmade_zero]
  exact run_make_row' _ _ _ 8 Try.underlying22 info_f64 rfl _ _ n (by omega) (by omega) W
theorem f64s_arr (M : List Nat) (i : Nat) (h : i < M.length) : (f64s M).toArray[i]? = some (.float .f64 M[i]) := by
  rw [List.getElem?_toArray]; exact f64s_get M i h
theorem f64s_set (M : List Nat) (i v : Nat) : (f64s M).toArray.setIfInBounds i (.float .f64 v) = (f64s (M.set i v)).toArray := by
  simp [f64s, List.map_set]
theorem row_of_blk {w : World} {g : Nat} {t : TypeId} {M : List Nat} (h : Blk w g t (f64s M).toArray) : Row w (some ⟨g, 0, none⟩) (f64s M) :=
  .inr ⟨g, 0, rfl, fun i v hi => by rw [Nat.zero_add, h.cell i]; rw [List.getElem?_toArray]; exact hi⟩

theorem frozen5 {w : World} {g : Nat} {t : TypeId} {v0 v1 v2 v3 v4 : Value} (h : Blk w g t #[v0, v1, v2, v3, v4]) :
    w.frozen? ⟨g, 0, none⟩ = false ∧ w.frozen? ⟨g, 1, none⟩ = false ∧ w.frozen? ⟨g, 2, none⟩ = false ∧ w.frozen? ⟨g, 3, none⟩ = false ∧ w.frozen? ⟨g, 4, none⟩ = false :=
  ⟨h.frozen 0, h.frozen 1, h.frozen 2, h.frozen 3, h.frozen 4⟩
theorem Blk.store5 {w : World} {g : Nat} {t : TypeId} {x0 x1 x2 x3 x4 : Value} (h : Blk w g t #[x0, x1, x2, x3, x4]) (u0 u1 u2 u3 u4 : Value) :
    Blk (((((w.setCell ⟨g, 0, none⟩ u0).setCell ⟨g, 1, none⟩ u1).setCell ⟨g, 2, none⟩ u2).setCell ⟨g, 3, none⟩ u3).setCell ⟨g, 4, none⟩ u4) g t #[u0, u1, u2, u3, u4] := by
  have := ((((h.set_ 0 u0).set_ 1 u1).set_ 2 u2).set_ 3 u3).set_ 4 u4
  simpa using this

theorem wrapi {z : Int} (h0 : -9223372036854775808 ≤ z) (h1 : z < 9223372036854775808) : IntKind.i64.wrap z = z := by
  simp [IntKind.wrap, IntKind.bits, IntKind.signed]; omega
/-- The place of the q-th number, row by row, of a matrix of r rows and k columns. -/
def spot (r k q : Nat) : Nat := q / k + q % k * r
theorem spot_lt {r k q : Nat} (h : q < r * k) : spot r k q < r * k := by
  unfold spot
  have hk : 0 < k := by rcases Nat.eq_zero_or_pos k with rfl | h0 <;> omega
  have h1 : q / k < r := Nat.div_lt_of_lt_mul (by rwa [Nat.mul_comm])
  have h2 : q % k < k := Nat.mod_lt _ hk
  calc q / k + q % k * r < r + q % k * r := by omega
    _ = (q % k + 1) * r := by rw [Nat.add_mul, Nat.one_mul, Nat.add_comm]
    _ ≤ k * r := Nat.mul_le_mul_right _ h2
    _ = r * k := Nat.mul_comm _ _
theorem spot_inj {r k q q' : Nat} (h : q < r * k) (h' : q' < r * k) (e : spot r k q = spot r k q') : q = q' := by
  unfold spot at e
  have hk : 0 < k := by rcases Nat.eq_zero_or_pos k with rfl | h0 <;> omega
  have h1 : q / k < r := Nat.div_lt_of_lt_mul (by rwa [Nat.mul_comm])
  have h1' : q' / k < r := Nat.div_lt_of_lt_mul (by rwa [Nat.mul_comm])
  have a1 : (q / k + q % k * r) % r = q / k := by rw [Nat.add_mul_mod_self_right, Nat.mod_eq_of_lt h1]
  have a2 : (q' / k + q' % k * r) % r = q' / k := by rw [Nat.add_mul_mod_self_right, Nat.mod_eq_of_lt h1']
  have b1 : (q / k + q % k * r) / r = q % k := by rw [Nat.add_mul_div_right _ _ (by omega), Nat.div_eq_of_lt h1, Nat.zero_add]
  have b2 : (q' / k + q' % k * r) / r = q' % k := by rw [Nat.add_mul_div_right _ _ (by omega), Nat.div_eq_of_lt h1', Nat.zero_add]
  have c1 : q / k = q' / k := by rw [← a1, e, a2]
  have c2 : q % k = q' % k := by rw [← b1, e, b2]
  rw [← Nat.div_add_mod q k, ← Nat.div_add_mod q' k, c1, c2]

/-- The matrix' list when the first q numbers stand in it. -/
def Dens (l : List Nat) (r k q : Nat) (M : List Nat) : Prop := M.length = r * k ∧ ∀ p, p < r * k → M.getD (spot r k p) 0 = if p < q then l.getD p 0 else 0
theorem Dens.zero (l : List Nat) (r k : Nat) : Dens l r k 0 (List.replicate (r * k) 0) := by
  refine ⟨by simp, fun p hp => ?_⟩
  have := spot_lt hp
  simp [List.getD, this]
theorem Dens.step {l : List Nat} {r k q : Nat} {M : List Nat} (h : Dens l r k q M) (hq : q < r * k) : Dens l r k (q + 1) (M.set (spot r k q) (l.getD q 0)) := by
  refine ⟨by rw [List.length_set]; exact h.1, fun p hp => ?_⟩
  have hs := spot_lt hq
  by_cases e : p = q
  · subst e
    simp [List.getD, h.1, hs]
  · have hne : spot r k q ≠ spot r k p := fun e' => e (spot_inj hp hq e'.symm)
    rw [List.getD, List.getElem?_set_ne hne]
    have := h.2 p hp
    rw [List.getD] at this
    rw [this]
    by_cases hpq : p < q
    · rw [if_pos hpq, if_pos (by omega)]
    · rw [if_neg hpq, if_neg (by omega)]
/-- The matrix' list in the end. -/
def Dense (l : List Nat) (r k : Nat) (M : List Nat) : Prop := M.length = r * k ∧ ∀ p, p < r * k → M.getD (spot r k p) 0 = l.getD p 0
theorem Dens.done {l : List Nat} {r k q : Nat} {M : List Nat} (h : Dens l r k q M) (hq : q = min l.length (r * k)) : Dense l r k M := by
  refine ⟨h.1, fun p hp => ?_⟩
  rw [h.2 p hp]
  by_cases hpq : p < q
  · rw [if_pos hpq]
  · rw [if_neg hpq]
    have : l.length ≤ p := by omega
    simp [List.getD, List.getElem?_eq_none this]

end Go.Proofs.Ytbjopdnfjjcpoaa
