/-
Vectors that meet, and Pair. Conditions: as each says.
-/
import Derived.Test.YtbjopdnfjjcpoaaVah
set_option linter.unusedVariables false
namespace Go.Proofs.Ytbjopdnfjjcpoaa
open Go.RowKit
attribute [local go_sem ↓] Go.wp_at_zero Go.wp_at_succ

/-- Have vectors of K numbers a place in common? -/
def metB (off inc off' inc' K : Nat) : Bool := (List.range K).any fun i => (List.range K).any fun j => off + i * inc == off' + j * inc'
theorem metB_true {off inc off' inc' K : Nat} : metB off inc off' inc' K = true ↔ ∃ i, i < K ∧ ∃ j, j < K ∧ off + i * inc = off' + j * inc' := by
  simp [metB]
theorem metB_false {off inc off' inc' K : Nat} : metB off inc off' inc' K = false ↔ ∀ i, i < K → ∀ j, j < K → off + i * inc ≠ off' + j * inc' := by
  rw [← Bool.not_eq_true, metB_true]
  constructor
  · intro h i hi j hj e
    exact h ⟨i, hi, j, hj, e⟩
  · rintro h ⟨i, hi, j, hj, e⟩
    exact h i hi j hj e

theorem vec_mat (n : Nat) (off k inc : Int) : matB n off 1 k inc = vecB n off k inc := by
  unfold matB vecB
  exact decide_eq_decide.2 (by omega)
/-- A right vector, in plain numbers. -/
theorem vec_nat {n : Nat} {off k inc : Int} (h : vecB n off k inc = true) : ∃ o K i : Nat, off = o ∧ k = K ∧ inc = i ∧ 1 ≤ i ∧ (K = 0 ∨ o + (K - 1) * i < n) := by
  have h := of_decide_eq_true h
  refine ⟨off.toNat, k.toNat, inc.toNat, by omega, by omega, by omega, by omega, ?_⟩
  rcases h.2.2.2 with h0 | h0
  · exact .inl (by omega)
  · by_cases hk : k = 0
    · exact .inl (by omega)
    · refine .inr ?_
      have e : ((off.toNat + (k.toNat - 1) * inc.toNat : Nat) : Int) = off + (k - 1) * inc := by
        rw [Int.natCast_add, Int.natCast_mul, Int.toNat_of_nonneg (by omega), Int.toNat_of_nonneg (by omega : 0 ≤ inc)]
        congr 2
        omega
      omega
theorem vec_right {n o K i : Nat} (hi : 1 ≤ i) (h : K = 0 ∨ o + (K - 1) * i < n) : vecB n (o : Int) (K : Int) (i : Int) = true := by
  refine decide_eq_true ⟨by omega, by omega, by omega, ?_⟩
  rcases h with h | h
  · exact .inl (by omega)
  · rcases Nat.eq_zero_or_pos K with h0 | h0
    · exact .inl (by omega)
    · refine .inr ?_
      have e : ((K : Int) - 1) * (i : Int) = (((K - 1) * i : Nat) : Int) := by rw [Int.natCast_mul]; congr 1; omega
      rw [e]; omega

theorem stands_iff {off' K inc' p : Nat} (hi : 1 ≤ inc') : standsB (off' : Int) (K : Int) (inc' : Int) (p : Int) = true ↔ ∃ j, j < K ∧ p = off' + j * inc' := by
  unfold standsB
  rw [decide_eq_true_eq]
  constructor
  · rintro ⟨h1, h2, h3⟩
    obtain ⟨q, hq⟩ : ∃ q : Nat, (p : Int) - off' = q := ⟨p - off', by omega⟩
    rw [hq] at h2 h3
    have h2' : q % inc' = 0 := by exact_mod_cast h2
    have h3' : q / inc' < K := by exact_mod_cast h3
    refine ⟨q / inc', h3', ?_⟩
    have := Nat.div_add_mod q inc'
    rw [h2', Nat.mul_comm] at this
    omega
  · rintro ⟨j, hj, rfl⟩
    have e : ((off' + j * inc' : Nat) : Int) - off' = ((j * inc' : Nat) : Int) := by omega
    rw [e]
    refine ⟨by omega, ?_, ?_⟩
    · have : j * inc' % inc' = 0 := Nat.mul_mod_left _ _
      exact_mod_cast this
    · have : j * inc' / inc' = j := Nat.mul_div_cancel _ hi
      have h2 : ((j * inc' : Nat) : Int) / (inc' : Int) = ((j * inc' / inc' : Nat) : Int) := by simp
      rw [h2, this]; exact_mod_cast hj
theorem stands_not {off' K inc' p : Nat} (hi : 1 ≤ inc') (h : standsB (off' : Int) (K : Int) (inc' : Int) (p : Int) = false) : ∀ j, j < K → p ≠ off' + j * inc' := by
  intro j hj e
  rw [(stands_iff hi).2 ⟨j, hj, e⟩] at h
  cases h

/-- What Meet says of the rows that two vectors of K numbers are. -/
def spanB (n o i n' o' i' K : Nat) : Bool := bothB n o 1 K i n' o' 1 K i' && (decide ((o : Int) ≤ lastI o' 1 K i') && decide ((o' : Int) ≤ lastI o 1 K i))
theorem span_not {n o i n' o' i' K : Nat} (hi : 1 ≤ i) (hi' : 1 ≤ i') (hr : K = 0 ∨ o + (K - 1) * i < n) (hr' : K = 0 ∨ o' + (K - 1) * i' < n') (h : spanB n o i n' o' i' K = false) : metB o i o' i' K = false := by
  rw [metB_false]
  intro a ha b hb e
  have h1 : bothB n o 1 K i n' o' 1 K i' = true := by
    unfold bothB
    rw [vec_mat, vec_mat, vec_right hi hr, vec_right hi' hr']
    have : ((K : Int) == 0) = false := by simp; omega
    simp [this]
  unfold spanB at h
  rw [h1] at h
  have a1 : a * i ≤ (K - 1) * i := Nat.mul_le_mul_right _ (by omega)
  have b1 : b * i' ≤ (K - 1) * i' := Nat.mul_le_mul_right _ (by omega)
  have e1 : ((K : Int) - 1) * (i : Int) = (((K - 1) * i : Nat) : Int) := by rw [Int.natCast_mul]; congr 1; omega
  have e2 : ((K : Int) - 1) * (i' : Int) = (((K - 1) * i' : Nat) : Int) := by rw [Int.natCast_mul]; congr 1; omega
  unfold lastI at h
  rw [e1, e2] at h
  simp at h
  omega

theorem and_turn (a b c : Bool) : (a && b && c) = (b && (a && c)) := by cases a <;> cases b <;> cases c <;> rfl
end Go.Proofs.Ytbjopdnfjjcpoaa
/-
Pair: which error, or none. Conditions: the vectors' lists are the call's own, or the caller's.
-/
set_option linter.unusedVariables false
namespace Go.Proofs.Ytbjopdnfjjcpoaa
open Go.RowKit
attribute [local go_sem ↓] Go.wp_at_zero Go.wp_at_succ

/-- Which error, or 0. -/
def pairI (same : Bool) (n : Nat) (off k inc : Int) (n' : Nat) (off' k' inc' : Int) : Int :=
  if vecB n off k inc then (if vecB n' off' k' inc' then (if k = k' then (if same && metB off.toNat inc.toNat off'.toNat inc'.toNat k.toNat then 2 else 0) else 3) else 1) else 1

end Go.Proofs.Ytbjopdnfjjcpoaa
/-
Copy: numbers that are copied. Conditions: the vectors' lists are the call's own, or the caller's.
-/
set_option linter.unusedVariables false
namespace Go.Proofs.Ytbjopdnfjjcpoaa
open Go.RowKit
attribute [local go_sem ↓] Go.wp_at_zero Go.wp_at_succ

/-- Between: nothing has changed, or the one list has. -/
def Mid (G : List Nat) (wr : World) (s s' : Nat → List Nat) (w' : World) : Prop := Chg G wr w' ∧ (Has w' G s ∨ Has w' G s')
theorem cell_self {W : World} {g P : Nat} {x u : Value} (hc : W.cell? ⟨g, P, none⟩ = some x) : (W.setCell ⟨g, P, none⟩ u).cell? ⟨g, P, none⟩ = some u := World.cell?_setCell_same' W _ u (by rw [hc]; rfl)
section
variable {G : List Nat} {wr W w' : World} {s : Nat → List Nat} {g P v : Nat}
theorem Mid.start {s' : Nat → List Nat} (h : Has w' G s) (hc : Chg G wr w') : Mid G wr s s' w' := ⟨hc, .inl h⟩
theorem Mid.nxt {s' : Nat → List Nat} (h : Mid G wr s s' W) (hb : Below W.heap.size W w') : Mid G wr s s' w' := ⟨h.1.nxt hb, h.2.imp (fun k => k.nxt hb) (fun k => k.nxt hb)⟩
theorem Mid.there (h : Mid G wr s (upd s g ((s g).set P v)) W) (hg : g ∈ G) (hP : P < (s g).length) : ∃ u, W.cell? ⟨g, P, none⟩ = some (.float .f64 u) ∧ W.frozen? ⟨g, P, none⟩ = false := by
  rcases h.2 with h | h
  · exact ⟨_, h.get hg hP, (h g hg).frozen P⟩
  · refine ⟨_, h.get hg ?_, (h g hg).frozen P⟩
    rw [upd_self, List.length_set]; exact hP
theorem Mid.store (h : Mid G wr s (upd s g ((s g).set P v)) W) (hg : g ∈ G) (hP : P < (s g).length) : Has (W.setCell ⟨g, P, none⟩ (.float .f64 v)) G (upd s g ((s g).set P v)) ∧ Chg G wr (W.setCell ⟨g, P, none⟩ (.float .f64 v)) := by
  refine ⟨?_, h.1.set_in hg _⟩
  rcases h.2 with h | h
  · exact h.set_ hg v hP
  · have := h.set_ hg v (i := P) (by rw [upd_self, List.length_set]; exact hP)
    simpa [upd_self, upd_upd] using this
theorem Mid.stored (h : Mid G wr s (upd s g ((s g).set P v)) W) (hg : g ∈ G) (hP : P < (s g).length) : Mid G wr s (upd s g ((s g).set P v)) (W.setCell ⟨g, P, none⟩ (.float .f64 v)) := ⟨(h.store hg hP).2, .inr (h.store hg hP).1⟩
theorem Mid.done {x : Value} (h : Mid G wr s (upd s g ((s g).set P v)) (W.setCell ⟨g, P, none⟩ (.float .f64 v))) (hg : g ∈ G) (hP : P < (s g).length) (hc : W.cell? ⟨g, P, none⟩ = some x) : Has (W.setCell ⟨g, P, none⟩ (.float .f64 v)) G (upd s g ((s g).set P v)) ∧ Chg G wr (W.setCell ⟨g, P, none⟩ (.float .f64 v)) := by
  refine ⟨?_, h.1⟩
  rcases h.2 with k | k
  · have h1 := k.get hg hP
    rw [cell_self hc] at h1
    have h2 : v = (s g).getD P 0 := by simpa using h1
    have h3 : (s g).set P v = s g := by
      rw [h2, getD_of_lt hP]; exact List.set_getElem_self hP
    rw [h3, upd_same]; exact k
  · exact k
end
theorem cell_set2 {w : World} {b o g i : Nat} (h : ¬ (b = g ∧ o = i)) (u : Value) : (w.setCell ⟨g, i, none⟩ u).cell? ⟨b, o, none⟩ = w.cell? ⟨b, o, none⟩ :=
  World.cell?_setCell_other w ⟨g, i, none⟩ ⟨b, o, none⟩ u (fun e => h (by injection e with e1 e2; exact ⟨e1.symm, e2.symm⟩))
theorem heldQ9 {W w' : World} {b0 o0 b1 o1 b2 o2 b3 o3 b4 o4 b5 o5 b6 o6 b7 o7 b8 o8 : Nat} {v0 v1 v2 v3 v4 v5 v6 v7 v8 : Value} {R : World → Prop} (h : W.cell? ⟨b0, o0, none⟩ = some v0 ∧ W.cell? ⟨b1, o1, none⟩ = some v1 ∧ W.cell? ⟨b2, o2, none⟩ = some v2 ∧ W.cell? ⟨b3, o3, none⟩ = some v3 ∧ W.cell? ⟨b4, o4, none⟩ = some v4 ∧ W.cell? ⟨b5, o5, none⟩ = some v5 ∧ W.cell? ⟨b6, o6, none⟩ = some v6 ∧ W.cell? ⟨b7, o7, none⟩ = some v7 ∧ W.cell? ⟨b8, o8, none⟩ = some v8 ∧ R W) (hb : Below W.heap.size W w') (hR : R W → R w') :
    w'.cell? ⟨b0, o0, none⟩ = some v0 ∧ w'.cell? ⟨b1, o1, none⟩ = some v1 ∧ w'.cell? ⟨b2, o2, none⟩ = some v2 ∧ w'.cell? ⟨b3, o3, none⟩ = some v3 ∧ w'.cell? ⟨b4, o4, none⟩ = some v4 ∧ w'.cell? ⟨b5, o5, none⟩ = some v5 ∧ w'.cell? ⟨b6, o6, none⟩ = some v6 ∧ w'.cell? ⟨b7, o7, none⟩ = some v7 ∧ w'.cell? ⟨b8, o8, none⟩ = some v8 ∧ R w' :=
  ⟨cell_below h.1 hb, cell_below h.2.1 hb, cell_below h.2.2.1 hb, cell_below h.2.2.2.1 hb, cell_below h.2.2.2.2.1 hb, cell_below h.2.2.2.2.2.1 hb, cell_below h.2.2.2.2.2.2.1 hb, cell_below h.2.2.2.2.2.2.2.1 hb, cell_below h.2.2.2.2.2.2.2.2.1 hb, hR h.2.2.2.2.2.2.2.2.2⟩
theorem heldS9 {W : World} {b0 o0 b1 o1 b2 o2 b3 o3 b4 o4 b5 o5 b6 o6 b7 o7 b8 o8 g j : Nat} {v0 v1 v2 v3 v4 v5 v6 v7 v8 : Value} {R : World → Prop} (u : Value) (h : W.cell? ⟨b0, o0, none⟩ = some v0 ∧ W.cell? ⟨b1, o1, none⟩ = some v1 ∧ W.cell? ⟨b2, o2, none⟩ = some v2 ∧ W.cell? ⟨b3, o3, none⟩ = some v3 ∧ W.cell? ⟨b4, o4, none⟩ = some v4 ∧ W.cell? ⟨b5, o5, none⟩ = some v5 ∧ W.cell? ⟨b6, o6, none⟩ = some v6 ∧ W.cell? ⟨b7, o7, none⟩ = some v7 ∧ W.cell? ⟨b8, o8, none⟩ = some v8 ∧ R W) (hR : R W → R (W.setCell ⟨g, j, none⟩ u)) (n0 : ¬ (b0 = g ∧ o0 = j)) (n1 : ¬ (b1 = g ∧ o1 = j)) (n2 : ¬ (b2 = g ∧ o2 = j)) (n3 : ¬ (b3 = g ∧ o3 = j)) (n4 : ¬ (b4 = g ∧ o4 = j)) (n5 : ¬ (b5 = g ∧ o5 = j)) (n6 : ¬ (b6 = g ∧ o6 = j)) (n7 : ¬ (b7 = g ∧ o7 = j)) (n8 : ¬ (b8 = g ∧ o8 = j)) :
    (W.setCell ⟨g, j, none⟩ u).cell? ⟨b0, o0, none⟩ = some v0 ∧ (W.setCell ⟨g, j, none⟩ u).cell? ⟨b1, o1, none⟩ = some v1 ∧ (W.setCell ⟨g, j, none⟩ u).cell? ⟨b2, o2, none⟩ = some v2 ∧ (W.setCell ⟨g, j, none⟩ u).cell? ⟨b3, o3, none⟩ = some v3 ∧ (W.setCell ⟨g, j, none⟩ u).cell? ⟨b4, o4, none⟩ = some v4 ∧ (W.setCell ⟨g, j, none⟩ u).cell? ⟨b5, o5, none⟩ = some v5 ∧ (W.setCell ⟨g, j, none⟩ u).cell? ⟨b6, o6, none⟩ = some v6 ∧ (W.setCell ⟨g, j, none⟩ u).cell? ⟨b7, o7, none⟩ = some v7 ∧ (W.setCell ⟨g, j, none⟩ u).cell? ⟨b8, o8, none⟩ = some v8 ∧ R (W.setCell ⟨g, j, none⟩ u) :=
  ⟨(cell_set2 n0 u).trans h.1, (cell_set2 n1 u).trans h.2.1, (cell_set2 n2 u).trans h.2.2.1, (cell_set2 n3 u).trans h.2.2.2.1, (cell_set2 n4 u).trans h.2.2.2.2.1, (cell_set2 n5 u).trans h.2.2.2.2.2.1, (cell_set2 n6 u).trans h.2.2.2.2.2.2.1, (cell_set2 n7 u).trans h.2.2.2.2.2.2.2.1, (cell_set2 n8 u).trans h.2.2.2.2.2.2.2.2.1, hR h.2.2.2.2.2.2.2.2.2⟩
theorem heldQ10 {W w' : World} {b0 o0 b1 o1 b2 o2 b3 o3 b4 o4 b5 o5 b6 o6 b7 o7 b8 o8 b9 o9 : Nat} {v0 v1 v2 v3 v4 v5 v6 v7 v8 v9 : Value} {R : World → Prop} (h : W.cell? ⟨b0, o0, none⟩ = some v0 ∧ W.cell? ⟨b1, o1, none⟩ = some v1 ∧ W.cell? ⟨b2, o2, none⟩ = some v2 ∧ W.cell? ⟨b3, o3, none⟩ = some v3 ∧ W.cell? ⟨b4, o4, none⟩ = some v4 ∧ W.cell? ⟨b5, o5, none⟩ = some v5 ∧ W.cell? ⟨b6, o6, none⟩ = some v6 ∧ W.cell? ⟨b7, o7, none⟩ = some v7 ∧ W.cell? ⟨b8, o8, none⟩ = some v8 ∧ W.cell? ⟨b9, o9, none⟩ = some v9 ∧ R W) (hb : Below W.heap.size W w') (hR : R W → R w') :
    w'.cell? ⟨b0, o0, none⟩ = some v0 ∧ w'.cell? ⟨b1, o1, none⟩ = some v1 ∧ w'.cell? ⟨b2, o2, none⟩ = some v2 ∧ w'.cell? ⟨b3, o3, none⟩ = some v3 ∧ w'.cell? ⟨b4, o4, none⟩ = some v4 ∧ w'.cell? ⟨b5, o5, none⟩ = some v5 ∧ w'.cell? ⟨b6, o6, none⟩ = some v6 ∧ w'.cell? ⟨b7, o7, none⟩ = some v7 ∧ w'.cell? ⟨b8, o8, none⟩ = some v8 ∧ w'.cell? ⟨b9, o9, none⟩ = some v9 ∧ R w' :=
  ⟨cell_below h.1 hb, cell_below h.2.1 hb, cell_below h.2.2.1 hb, cell_below h.2.2.2.1 hb, cell_below h.2.2.2.2.1 hb, cell_below h.2.2.2.2.2.1 hb, cell_below h.2.2.2.2.2.2.1 hb, cell_below h.2.2.2.2.2.2.2.1 hb, cell_below h.2.2.2.2.2.2.2.2.1 hb, cell_below h.2.2.2.2.2.2.2.2.2.1 hb, hR h.2.2.2.2.2.2.2.2.2.2⟩
theorem heldS10 {W : World} {b0 o0 b1 o1 b2 o2 b3 o3 b4 o4 b5 o5 b6 o6 b7 o7 b8 o8 b9 o9 g j : Nat} {v0 v1 v2 v3 v4 v5 v6 v7 v8 v9 : Value} {R : World → Prop} (u : Value) (h : W.cell? ⟨b0, o0, none⟩ = some v0 ∧ W.cell? ⟨b1, o1, none⟩ = some v1 ∧ W.cell? ⟨b2, o2, none⟩ = some v2 ∧ W.cell? ⟨b3, o3, none⟩ = some v3 ∧ W.cell? ⟨b4, o4, none⟩ = some v4 ∧ W.cell? ⟨b5, o5, none⟩ = some v5 ∧ W.cell? ⟨b6, o6, none⟩ = some v6 ∧ W.cell? ⟨b7, o7, none⟩ = some v7 ∧ W.cell? ⟨b8, o8, none⟩ = some v8 ∧ W.cell? ⟨b9, o9, none⟩ = some v9 ∧ R W) (hR : R W → R (W.setCell ⟨g, j, none⟩ u)) (n0 : ¬ (b0 = g ∧ o0 = j)) (n1 : ¬ (b1 = g ∧ o1 = j)) (n2 : ¬ (b2 = g ∧ o2 = j)) (n3 : ¬ (b3 = g ∧ o3 = j)) (n4 : ¬ (b4 = g ∧ o4 = j)) (n5 : ¬ (b5 = g ∧ o5 = j)) (n6 : ¬ (b6 = g ∧ o6 = j)) (n7 : ¬ (b7 = g ∧ o7 = j)) (n8 : ¬ (b8 = g ∧ o8 = j)) (n9 : ¬ (b9 = g ∧ o9 = j)) :
    (W.setCell ⟨g, j, none⟩ u).cell? ⟨b0, o0, none⟩ = some v0 ∧ (W.setCell ⟨g, j, none⟩ u).cell? ⟨b1, o1, none⟩ = some v1 ∧ (W.setCell ⟨g, j, none⟩ u).cell? ⟨b2, o2, none⟩ = some v2 ∧ (W.setCell ⟨g, j, none⟩ u).cell? ⟨b3, o3, none⟩ = some v3 ∧ (W.setCell ⟨g, j, none⟩ u).cell? ⟨b4, o4, none⟩ = some v4 ∧ (W.setCell ⟨g, j, none⟩ u).cell? ⟨b5, o5, none⟩ = some v5 ∧ (W.setCell ⟨g, j, none⟩ u).cell? ⟨b6, o6, none⟩ = some v6 ∧ (W.setCell ⟨g, j, none⟩ u).cell? ⟨b7, o7, none⟩ = some v7 ∧ (W.setCell ⟨g, j, none⟩ u).cell? ⟨b8, o8, none⟩ = some v8 ∧ (W.setCell ⟨g, j, none⟩ u).cell? ⟨b9, o9, none⟩ = some v9 ∧ R (W.setCell ⟨g, j, none⟩ u) :=
  ⟨(cell_set2 n0 u).trans h.1, (cell_set2 n1 u).trans h.2.1, (cell_set2 n2 u).trans h.2.2.1, (cell_set2 n3 u).trans h.2.2.2.1, (cell_set2 n4 u).trans h.2.2.2.2.1, (cell_set2 n5 u).trans h.2.2.2.2.2.1, (cell_set2 n6 u).trans h.2.2.2.2.2.2.1, (cell_set2 n7 u).trans h.2.2.2.2.2.2.2.1, (cell_set2 n8 u).trans h.2.2.2.2.2.2.2.2.1, (cell_set2 n9 u).trans h.2.2.2.2.2.2.2.2.2.1, hR h.2.2.2.2.2.2.2.2.2.2⟩

/-- No error: right vectors, in plain numbers, that don't meet. -/
theorem pair_zero {g g' n n' : Nat} {off k inc off' k' inc' : Int} (h : pairI (decide (g = g')) n off k inc n' off' k' inc' = 0) :
    ∃ o K i o' i' : Nat, off = o ∧ k = K ∧ inc = i ∧ off' = o' ∧ k' = K ∧ inc' = i' ∧ 1 ≤ i ∧ 1 ≤ i' ∧ (K = 0 ∨ o + (K - 1) * i < n) ∧ (K = 0 ∨ o' + (K - 1) * i' < n') ∧ (g = g' → ∀ a, a < K → ∀ b, b < K → o + a * i ≠ o' + b * i') := by
  unfold pairI at h
  split at h
  · rename_i h1
    split at h
    · rename_i h2
      split at h
      · rename_i h3
        split at h
        · omega
        · rename_i h4
          obtain ⟨o, K, i, rfl, rfl, rfl, a1, a2⟩ := vec_nat h1
          obtain ⟨o', K', i', rfl, e2, rfl, a1', a2'⟩ := vec_nat h2
          subst h3
          obtain rfl : K = K' := by omega
          refine ⟨o, K, i, o', i', rfl, rfl, rfl, rfl, rfl, rfl, a1, a1', a2, a2', fun e => ?_⟩
          subst e
          simp only [Int.toNat_natCast, decide_true, Bool.true_and, Bool.not_eq_true] at h4
          exact metB_false.1 h4
      · omega
    · omega
  · omega

end Go.Proofs.Ytbjopdnfjjcpoaa
