/-
Copy: numbers that are copied. Conditions: the vectors' lists are the call's own, or the caller's.
-/
import Derived.Test.YtiapminfldbgbaaMvC
set_option linter.unusedVariables false
namespace Go.Proofs.Ytiapminfldbgbaa
open Go.RowKit
attribute [local go_sem ↓] Go.wp_at_zero Go.wp_at_succ

/-- Between: nothing has changed, or the one list has. -/
def Mid (G : List Nat) (wr : World) (s s' : Nat → List Nat) (w' : World) : Prop := Chg G wr w' ∧ (Has w' G s ∨ Has w' G s')
theorem cell_self {W : World} {g P : Nat} {x u : Value} (hc : W.cell? ⟨g, P, none⟩ = some x) : (W.setCell ⟨g, P, none⟩ u).cell? ⟨g, P, none⟩ = some u := World.cell?_setCell_same' W _ u (by rw [hc]; rfl)
section
variable {G : List Nat} {wr W w' : World} {s : Nat → List Nat} {g P v : Nat}
theorem Mid.start {s' : Nat → List Nat} (h : Has w' G s) (hc : Chg G wr w') : Mid G wr s s' w' := ⟨hc, .inl h⟩
theorem Mid.nxt {s' : Nat → List Nat} (h : Mid G wr s s' W) (hb : Below W.heap.size W w') : Mid G wr s s' w' := ⟨h.1.nxt hb, h.2.imp (fun k => k.nxt hb) (fun k => k.nxt hb)⟩
theorem Mid.there (h : Mid G wr s (upd s g ((s g).set P v)) W) (hg : g ∈ G) (hP : P < (s g).length) : ∃ u, W.cell? ⟨g, P, none⟩ = some (.float .f64 u) ∧ W.frozen? ⟨g, P, none⟩ = false := by
  rcases h.2 with h | h
  · exact ⟨_, h.get hg hP, (h g hg).frozen P⟩
  · refine ⟨_, h.get hg ?_, (h g hg).frozen P⟩
    rw [upd_self, List.length_set]; exact hP
theorem Mid.store (h : Mid G wr s (upd s g ((s g).set P v)) W) (hg : g ∈ G) (hP : P < (s g).length) : Has (W.setCell ⟨g, P, none⟩ (.float .f64 v)) G (upd s g ((s g).set P v)) ∧ Chg G wr (W.setCell ⟨g, P, none⟩ (.float .f64 v)) := by
  refine ⟨?_, h.1.set_in hg _⟩
  rcases h.2 with h | h
  · exact h.set_ hg v hP
  · have := h.set_ hg v (i := P) (by rw [upd_self, List.length_set]; exact hP)
    simpa [upd_self, upd_upd] using this
theorem Mid.stored (h : Mid G wr s (upd s g ((s g).set P v)) W) (hg : g ∈ G) (hP : P < (s g).length) : Mid G wr s (upd s g ((s g).set P v)) (W.setCell ⟨g, P, none⟩ (.float .f64 v)) := ⟨(h.store hg hP).2, .inr (h.store hg hP).1⟩
theorem Mid.done {x : Value} (h : Mid G wr s (upd s g ((s g).set P v)) (W.setCell ⟨g, P, none⟩ (.float .f64 v))) (hg : g ∈ G) (hP : P < (s g).length) (hc : W.cell? ⟨g, P, none⟩ = some x) : Has (W.setCell ⟨g, P, none⟩ (.float .f64 v)) G (upd s g ((s g).set P v)) ∧ Chg G wr (W.setCell ⟨g, P, none⟩ (.float .f64 v)) := by
  refine ⟨?_, h.1⟩
  rcases h.2 with k | k
  · have h1 := k.get hg hP
    rw [cell_self hc] at h1
    have h2 : v = (s g).getD P 0 := by simpa using h1
    have h3 : (s g).set P v = s g := by
      rw [h2, getD_of_lt hP]; exact List.set_getElem_self hP
    rw [h3, upd_same]; exact k
  · exact k
end
theorem cell_set2 {w : World} {b o g i : Nat} (h : ¬ (b = g ∧ o = i)) (u : Value) : (w.setCell ⟨g, i, none⟩ u).cell? ⟨b, o, none⟩ = w.cell? ⟨b, o, none⟩ :=
  World.cell?_setCell_other w ⟨g, i, none⟩ ⟨b, o, none⟩ u (fun e => h (by injection e with e1 e2; exact ⟨e1.symm, e2.symm⟩))
theorem heldQ9 {W w' : World} {b0 o0 b1 o1 b2 o2 b3 o3 b4 o4 b5 o5 b6 o6 b7 o7 b8 o8 : Nat} {v0 v1 v2 v3 v4 v5 v6 v7 v8 : Value} {R : World → Prop} (h : W.cell? ⟨b0, o0, none⟩ = some v0 ∧ W.cell? ⟨b1, o1, none⟩ = some v1 ∧ W.cell? ⟨b2, o2, none⟩ = some v2 ∧ W.cell? ⟨b3, o3, none⟩ = some v3 ∧ W.cell? ⟨b4, o4, none⟩ = some v4 ∧ W.cell? ⟨b5, o5, none⟩ = some v5 ∧ W.cell? ⟨b6, o6, none⟩ = some v6 ∧ W.cell? ⟨b7, o7, none⟩ = some v7 ∧ W.cell? ⟨b8, o8, none⟩ = some v8 ∧ R W) (hb : Below W.heap.size W w') (hR : R W → R w') :
    w'.cell? ⟨b0, o0, none⟩ = some v0 ∧ w'.cell? ⟨b1, o1, none⟩ = some v1 ∧ w'.cell? ⟨b2, o2, none⟩ = some v2 ∧ w'.cell? ⟨b3, o3, none⟩ = some v3 ∧ w'.cell? ⟨b4, o4, none⟩ = some v4 ∧ w'.cell? ⟨b5, o5, none⟩ = some v5 ∧ w'.cell? ⟨b6, o6, none⟩ = some v6 ∧ w'.cell? ⟨b7, o7, none⟩ = some v7 ∧ w'.cell? ⟨b8, o8, none⟩ = some v8 ∧ R w' :=
  ⟨cell_below h.1 hb, cell_below h.2.1 hb, cell_below h.2.2.1 hb, cell_below h.2.2.2.1 hb, cell_below h.2.2.2.2.1 hb, cell_below h.2.2.2.2.2.1 hb, cell_below h.2.2.2.2.2.2.1 hb, cell_below h.2.2.2.2.2.2.2.1 hb, cell_below h.2.2.2.2.2.2.2.2.1 hb, hR h.2.2.2.2.2.2.2.2.2⟩
theorem heldS9 {W : World} {b0 o0 b1 o1 b2 o2 b3 o3 b4 o4 b5 o5 b6 o6 b7 o7 b8 o8 g j : Nat} {v0 v1 v2 v3 v4 v5 v6 v7 v8 : Value} {R : World → Prop} (u : Value) (h : W.cell? ⟨b0, o0, none⟩ = some v0 ∧ W.cell? ⟨b1, o1, none⟩ = some v1 ∧ W.cell? ⟨b2, o2, none⟩ = some v2 ∧ W.cell? ⟨b3, o3, none⟩ = some v3 ∧ W.cell? ⟨b4, o4, none⟩ = some v4 ∧ W.cell? ⟨b5, o5, none⟩ = some v5 ∧ W.cell? ⟨b6, o6, none⟩ = some v6 ∧ W.cell? ⟨b7, o7, none⟩ = some v7 ∧ W.cell? ⟨b8, o8, none⟩ = some v8 ∧ R W) (hR : R W → R (W.setCell ⟨g, j, none⟩ u)) (n0 : ¬ (b0 = g ∧ o0 = j)) (n1 : ¬ (b1 = g ∧ o1 = j)) (n2 : ¬ (b2 = g ∧ o2 = j)) (n3 : ¬ (b3 = g ∧ o3 = j)) (n4 : ¬ (b4 = g ∧ o4 = j)) (n5 : ¬ (b5 = g ∧ o5 = j)) (n6 : ¬ (b6 = g ∧ o6 = j)) (n7 : ¬ (b7 = g ∧ o7 = j)) (n8 : ¬ (b8 = g ∧ o8 = j)) :
    (W.setCell ⟨g, j, none⟩ u).cell? ⟨b0, o0, none⟩ = some v0 ∧ (W.setCell ⟨g, j, none⟩ u).cell? ⟨b1, o1, none⟩ = some v1 ∧ (W.setCell ⟨g, j, none⟩ u).cell? ⟨b2, o2, none⟩ = some v2 ∧ (W.setCell ⟨g, j, none⟩ u).cell? ⟨b3, o3, none⟩ = some v3 ∧ (W.setCell ⟨g, j, none⟩ u).cell? ⟨b4, o4, none⟩ = some v4 ∧ (W.setCell ⟨g, j, none⟩ u).cell? ⟨b5, o5, none⟩ = some v5 ∧ (W.setCell ⟨g, j, none⟩ u).cell? ⟨b6, o6, none⟩ = some v6 ∧ (W.setCell ⟨g, j, none⟩ u).cell? ⟨b7, o7, none⟩ = some v7 ∧ (W.setCell ⟨g, j, none⟩ u).cell? ⟨b8, o8, none⟩ = some v8 ∧ R (W.setCell ⟨g, j, none⟩ u) :=
  ⟨(cell_set2 n0 u).trans h.1, (cell_set2 n1 u).trans h.2.1, (cell_set2 n2 u).trans h.2.2.1, (cell_set2 n3 u).trans h.2.2.2.1, (cell_set2 n4 u).trans h.2.2.2.2.1, (cell_set2 n5 u).trans h.2.2.2.2.2.1, (cell_set2 n6 u).trans h.2.2.2.2.2.2.1, (cell_set2 n7 u).trans h.2.2.2.2.2.2.2.1, (cell_set2 n8 u).trans h.2.2.2.2.2.2.2.2.1, hR h.2.2.2.2.2.2.2.2.2⟩
theorem heldQ10 {W w' : World} {b0 o0 b1 o1 b2 o2 b3 o3 b4 o4 b5 o5 b6 o6 b7 o7 b8 o8 b9 o9 : Nat} {v0 v1 v2 v3 v4 v5 v6 v7 v8 v9 : Value} {R : World → Prop} (h : W.cell? ⟨b0, o0, none⟩ = some v0 ∧ W.cell? ⟨b1, o1, none⟩ = some v1 ∧ W.cell? ⟨b2, o2, none⟩ = some v2 ∧ W.cell? ⟨b3, o3, none⟩ = some v3 ∧ W.cell? ⟨b4, o4, none⟩ = some v4 ∧ W.cell? ⟨b5, o5, none⟩ = some v5 ∧ W.cell? ⟨b6, o6, none⟩ = some v6 ∧ W.cell? ⟨b7, o7, none⟩ = some v7 ∧ W.cell? ⟨b8, o8, none⟩ = some v8 ∧ W.cell? ⟨b9, o9, none⟩ = some v9 ∧ R W) (hb : Below W.heap.size W w') (hR : R W → R w') :
    w'.cell? ⟨b0, o0, none⟩ = some v0 ∧ w'.cell? ⟨b1, o1, none⟩ = some v1 ∧ w'.cell? ⟨b2, o2, none⟩ = some v2 ∧ w'.cell? ⟨b3, o3, none⟩ = some v3 ∧ w'.cell? ⟨b4, o4, none⟩ = some v4 ∧ w'.cell? ⟨b5, o5, none⟩ = some v5 ∧ w'.cell? ⟨b6, o6, none⟩ = some v6 ∧ w'.cell? ⟨b7, o7, none⟩ = some v7 ∧ w'.cell? ⟨b8, o8, none⟩ = some v8 ∧ w'.cell? ⟨b9, o9, none⟩ = some v9 ∧ R w' :=
  ⟨cell_below h.1 hb, cell_below h.2.1 hb, cell_below h.2.2.1 hb, cell_below h.2.2.2.1 hb, cell_below h.2.2.2.2.1 hb, cell_below h.2.2.2.2.2.1 hb, cell_below h.2.2.2.2.2.2.1 hb, cell_below h.2.2.2.2.2.2.2.1 hb, cell_below h.2.2.2.2.2.2.2.2.1 hb, cell_below h.2.2.2.2.2.2.2.2.2.1 hb, hR h.2.2.2.2.2.2.2.2.2.2⟩
theorem heldS10 {W : World} {b0 o0 b1 o1 b2 o2 b3 o3 b4 o4 b5 o5 b6 o6 b7 o7 b8 o8 b9 o9 g j : Nat} {v0 v1 v2 v3 v4 v5 v6 v7 v8 v9 : Value} {R : World → Prop} (u : Value) (h : W.cell? ⟨b0, o0, none⟩ = some v0 ∧ W.cell? ⟨b1, o1, none⟩ = some v1 ∧ W.cell? ⟨b2, o2, none⟩ = some v2 ∧ W.cell? ⟨b3, o3, none⟩ = some v3 ∧ W.cell? ⟨b4, o4, none⟩ = some v4 ∧ W.cell? ⟨b5, o5, none⟩ = some v5 ∧ W.cell? ⟨b6, o6, none⟩ = some v6 ∧ W.cell? ⟨b7, o7, none⟩ = some v7 ∧ W.cell? ⟨b8, o8, none⟩ = some v8 ∧ W.cell? ⟨b9, o9, none⟩ = some v9 ∧ R W) (hR : R W → R (W.setCell ⟨g, j, none⟩ u)) (n0 : ¬ (b0 = g ∧ o0 = j)) (n1 : ¬ (b1 = g ∧ o1 = j)) (n2 : ¬ (b2 = g ∧ o2 = j)) (n3 : ¬ (b3 = g ∧ o3 = j)) (n4 : ¬ (b4 = g ∧ o4 = j)) (n5 : ¬ (b5 = g ∧ o5 = j)) (n6 : ¬ (b6 = g ∧ o6 = j)) (n7 : ¬ (b7 = g ∧ o7 = j)) (n8 : ¬ (b8 = g ∧ o8 = j)) (n9 : ¬ (b9 = g ∧ o9 = j)) :
    (W.setCell ⟨g, j, none⟩ u).cell? ⟨b0, o0, none⟩ = some v0 ∧ (W.setCell ⟨g, j, none⟩ u).cell? ⟨b1, o1, none⟩ = some v1 ∧ (W.setCell ⟨g, j, none⟩ u).cell? ⟨b2, o2, none⟩ = some v2 ∧ (W.setCell ⟨g, j, none⟩ u).cell? ⟨b3, o3, none⟩ = some v3 ∧ (W.setCell ⟨g, j, none⟩ u).cell? ⟨b4, o4, none⟩ = some v4 ∧ (W.setCell ⟨g, j, none⟩ u).cell? ⟨b5, o5, none⟩ = some v5 ∧ (W.setCell ⟨g, j, none⟩ u).cell? ⟨b6, o6, none⟩ = some v6 ∧ (W.setCell ⟨g, j, none⟩ u).cell? ⟨b7, o7, none⟩ = some v7 ∧ (W.setCell ⟨g, j, none⟩ u).cell? ⟨b8, o8, none⟩ = some v8 ∧ (W.setCell ⟨g, j, none⟩ u).cell? ⟨b9, o9, none⟩ = some v9 ∧ R (W.setCell ⟨g, j, none⟩ u) :=
  ⟨(cell_set2 n0 u).trans h.1, (cell_set2 n1 u).trans h.2.1, (cell_set2 n2 u).trans h.2.2.1, (cell_set2 n3 u).trans h.2.2.2.1, (cell_set2 n4 u).trans h.2.2.2.2.1, (cell_set2 n5 u).trans h.2.2.2.2.2.1, (cell_set2 n6 u).trans h.2.2.2.2.2.2.1, (cell_set2 n7 u).trans h.2.2.2.2.2.2.2.1, (cell_set2 n8 u).trans h.2.2.2.2.2.2.2.2.1, (cell_set2 n9 u).trans h.2.2.2.2.2.2.2.2.2.1, hR h.2.2.2.2.2.2.2.2.2.2⟩

/-- No error: right vectors, in plain numbers, that don't meet. -/
theorem pair_zero {g g' n n' : Nat} {off k inc off' k' inc' : Int} (h : pairI (decide (g = g')) n off k inc n' off' k' inc' = 0) :
    ∃ o K i o' i' : Nat, off = o ∧ k = K ∧ inc = i ∧ off' = o' ∧ k' = K ∧ inc' = i' ∧ 1 ≤ i ∧ 1 ≤ i' ∧ (K = 0 ∨ o + (K - 1) * i < n) ∧ (K = 0 ∨ o' + (K - 1) * i' < n') ∧ (g = g' → ∀ a, a < K → ∀ b, b < K → o + a * i ≠ o' + b * i') := by
  unfold pairI at h
  split at h
  · rename_i h1
    split at h
    · rename_i h2
      split at h
      · rename_i h3
        split at h
        · omega
        · rename_i h4
          obtain ⟨o, K, i, rfl, rfl, rfl, a1, a2⟩ := vec_nat h1
          obtain ⟨o', K', i', rfl, e2, rfl, a1', a2'⟩ := vec_nat h2
          subst h3
          obtain rfl : K = K' := by omega
          refine ⟨o, K, i, o', i', rfl, rfl, rfl, rfl, rfl, rfl, a1, a1', a2, a2', fun e => ?_⟩
          subst e
          simp only [Int.toNat_natCast, decide_true, Bool.true_and, Bool.not_eq_true] at h4
          exact metB_false.1 h4
      · omega
    · omega
  · omega

theorem mcopy_err (g g' c c' : Nat) (l l' : List Nat) (n n' : Nat) (off k inc off' k' inc' : Int) (w : World) (hO : Own w g l) (hO' : Own w g' l') (hln : l.length = n) (hln' : l'.length = n') (hn : n < 9223372036854775808) (hn' : n' < 9223372036854775808)
    (ho : I64 off) (hk : I64 k) (hi : I64 inc) (ho' : I64 off') (hk' : I64 k') (hi' : I64 inc') (p : Int) (hp : pairI (decide (g = g')) n off k inc n' off' k' inc' = p) (hp0 : p ≠ 0) :
    Calls Try.prog 13 #[vec (some ⟨g, 0, none⟩) n c off k inc, vec (some ⟨g', 0, none⟩) n' c' off' k' inc'] w fun e w' => e = .returned (.int .i64 p) ∧ Below w.heap.size w w' := by
  have HP := Lib.hid (fun W (h : Below w.heap.size w W) => pair_any g g' c c' l l' n n' off k inc off' k' inc' W (hO.nxt h) (hO'.nxt h) hln hln' hn hn' ho hk hi ho' hk' hi')
  rw [hp] at HP
  have hp1 : (p == 0) = false := by simp [hp0]
  clear hO hO' hln hln' hn hn' ho hk hi ho' hk' hi' hp
  unfold vec at *
  go_enter Try.func13, Try.ntmps13
  have HBl := Lib.hid (((Below.refl w.heap.size w).alloc (Nat.le_refl _) (.cells #[.slice (some ⟨g, 0, none⟩) n c, .int .i64 off, .int .i64 k, .int .i64 inc] 24)).alloc (by simp) (.cells #[.slice (some ⟨g', 0, none⟩) n' c', .int .i64 off', .int .i64 k', .int .i64 inc'] 24))
  go_wp2_with fail
  refine (HP.out _ HBl.out).mono ?_
  rintro e w1 ⟨rfl, hb1⟩
  have HB1 := Lib.hid (HBl.out.trans (hb1.mono HBl.out.size))
  clear hb1
  go_wp2_with fail
  go_ret
  exact ⟨rfl, HB1.out⟩

set_option maxHeartbeats 1000000 in
theorem mcopy_ok (G : List Nat) (s : Nat → List Nat) (g g' c c' n n' o i o' i' K : Nat) (w : World) (hH : Has w G s) (hg : g ∈ G) (hg' : g' ∈ G) (hln : (s g).length = n) (hln' : (s g').length = n') (hn : n < 9223372036854775808) (hn' : n' < 9223372036854775808)
    (hb : o < 9223372036854775808 ∧ i < 9223372036854775808 ∧ o' < 9223372036854775808 ∧ i' < 9223372036854775808 ∧ K < 9223372036854775808) (hi : 1 ≤ i) (hi' : 1 ≤ i') (hr : K = 0 ∨ o + (K - 1) * i < n) (hr' : K = 0 ∨ o' + (K - 1) * i' < n')
    (hm : g = g' → ∀ a, a < K → ∀ b, b < K → o + a * i ≠ o' + b * i') (hp : pairI (decide (g = g')) n o K i n' o' K i' = 0) :
    Calls Try.prog 13 #[vec (some ⟨g, 0, none⟩) n c o K i, vec (some ⟨g', 0, none⟩) n' c' o' K i'] w fun e w' => e = .returned (.int .i64 0) ∧ Has w' G (upd s g (wrt (s g) o i (lst (s g') o' i' K) K)) ∧ Chg G w w' := by
  have HP := Lib.hid (fun W (h : Below w.heap.size w W) => pair_any g g' c c' (s g) (s g') n n' o K i o' K i' W ((hH g hg).nxt h) ((hH g' hg').nxt h) hln hln' hn hn' (by unfold I64; omega) (by unfold I64; omega) (by unfold I64; omega) (by unfold I64; omega) (by unfold I64; omega) (by unfold I64; omega))
  rw [hp] at HP
  have HPl := Lib.hid (fun W (A : Option Addr) (nn cc oo ii a : Nat) (h : a < K ∧ ((oo = o ∧ ii = i) ∨ (oo = o' ∧ ii = i'))) => mplace_any A nn cc oo K ii a ((oo + a * ii : Nat) : Int) W (by simp) (by
    have h1 : a * i ≤ (K - 1) * i := Nat.mul_le_mul_right _ (by omega)
    have h2 : a * i' ≤ (K - 1) * i' := Nat.mul_le_mul_right _ (by omega)
    have e : ((a : Int) * (ii : Int)) = ((a * ii : Nat) : Int) := by simp
    rw [e]; unfold I64
    rcases h.2 with ⟨rfl, rfl⟩ | ⟨rfl, rfl⟩ <;> omega) (by
    have h1 : a * i ≤ (K - 1) * i := Nat.mul_le_mul_right _ (by omega)
    have h2 : a * i' ≤ (K - 1) * i' := Nat.mul_le_mul_right _ (by omega)
    unfold I64
    rcases h.2 with ⟨rfl, rfl⟩ | ⟨rfl, rfl⟩ <;> omega))
  have HH := Lib.hid hH
  have HGl := Lib.hid (fun x (hx : x ∈ G) => hH.lt hx)
  have Hg := Lib.hid hg
  have Hg' := Lib.hid hg'
  have Hl := Lib.hid hln
  have Hl' := Lib.hid hln'
  have HM := Lib.hid hm
  have HR := Lib.hid (fun a (h : a < K) => show o + a * i < n from by
    have h1 : a * i ≤ (K - 1) * i := Nat.mul_le_mul_right _ (by omega)
    omega)
  have HR' := Lib.hid (fun a (h : a < K) => show o' + a * i' < n' from by
    have h1 : a * i' ≤ (K - 1) * i' := Nat.mul_le_mul_right _ (by omega)
    omega)
  have hKb := hb.2.2.2.2
  have Hn := Lib.hid hn
  have Hn' := Lib.hid hn'
  have hgz := hH.lt hg
  have hgz' := hH.lt hg'
  clear hH hg hg' hln hln' hn hn' hb hi hi' hr hr' hm hp
  unfold vec at *
  go_enter Try.func13, Try.ntmps13
  have HBl := Lib.hid (((Below.refl w.heap.size w).alloc (Nat.le_refl _) (.cells #[.slice (some ⟨g, 0, none⟩) n c, .int .i64 o, .int .i64 K, .int .i64 i] 24)).alloc (by simp) (.cells #[.slice (some ⟨g', 0, none⟩) n' c', .int .i64 o', .int .i64 K, .int .i64 i'] 24))
  have HZ0 := Lib.hid ((Blk.new w 24 #[.slice (some ⟨g, 0, none⟩) n c, .int .i64 o, .int .i64 K, .int .i64 i]).alloc (.cells #[.slice (some ⟨g', 0, none⟩) n' c', .int .i64 o', .int .i64 K, .int .i64 i'] 24))
  have HZ1 := Lib.hid (Blk.new_ (w.alloc (.cells #[.slice (some ⟨g, 0, none⟩) n c, .int .i64 o, .int .i64 K, .int .i64 i] 24)) 24 #[.slice (some ⟨g', 0, none⟩) n' c', .int .i64 o', .int .i64 K, .int .i64 i'] (w.heap.size + 1) (by simp))
  go_wp2_with fail
  refine (HP.out _ HBl.out).mono ?_
  rintro e w1 ⟨rfl, hb1⟩
  have HB1 := Lib.hid (HBl.out.trans (hb1.mono HBl.out.size))
  have HZ2 := Lib.hid (HZ0.out.nxt hb1)
  have HZ3 := Lib.hid (HZ1.out.nxt hb1)
  clear hb1
  obtain ⟨c0, c1, c2, c3⟩ := cells4w HZ2.out
  obtain ⟨d0, d1, d2, d3⟩ := cells4w HZ3.out
  go_wp2_with fail
  generalize hz : w.heap.size = z at *
  have Hz := Lib.hid hz
  clear hz
  go_loopw [15] (fun a wr => ∃ q : Nat, q ≤ K ∧ a = .int .i64 q ∧ wr.cell? ⟨z, 0, none⟩ = some (.slice (some ⟨g, 0, none⟩) n c) ∧ wr.cell? ⟨z, 1, none⟩ = some (.int .i64 o) ∧ wr.cell? ⟨z, 2, none⟩ = some (.int .i64 K) ∧ wr.cell? ⟨z, 3, none⟩ = some (.int .i64 i) ∧ wr.cell? ⟨z + 1, 0, none⟩ = some (.slice (some ⟨g', 0, none⟩) n' c') ∧ wr.cell? ⟨z + 1, 1, none⟩ = some (.int .i64 o') ∧ wr.cell? ⟨z + 1, 2, none⟩ = some (.int .i64 K) ∧ wr.cell? ⟨z + 1, 3, none⟩ = some (.int .i64 i') ∧ Has wr G (upd s g (wrt (s g) o i (lst (s g') o' i' K) q)) ∧ Chg G w wr) (fun a _ => K - (intOf a).toNat)
  case atStart => exact ⟨0, Nat.zero_le _, rfl, c0, c1, c2, c3, d0, d1, d2, d3, by
    have e : upd s g (wrt (s g) o i (lst (s g') o' i' K) 0) = s := upd_same s g
    rw [e]; exact HH.out.nxt (by rw [Hz.out]; exact HB1.out), .of_below (by rw [Hz.out]; exact HB1.out)⟩
  case round =>
    clear c0 c1 c2 c3 d0 d1 d2 d3
    obtain ⟨q, hq, rfl, c0, c1, c2, c3, d0, d1, d2, d3, hhas, hchg⟩ := hrel
    have HHs := Lib.hid hhas
    have HC := Lib.hid hchg
    clear hhas hchg
    by_cases hlt : q < K
    · have HPl1 := Lib.hid (fun W (A : Option Addr) (nn cc oo ii : Nat) (h : (oo = o ∧ ii = i) ∨ (oo = o' ∧ ii = i')) => HPl.out W A nn cc oo ii q ⟨hlt, h⟩)
      have hv := copy_step (s := s) hlt HM.out
      have hR1 := HR.out q hlt
      have hR2 := HR'.out q hlt
      obtain ⟨v, hv0⟩ : ∃ v, (lst (s g') o' i' K).getD q 0 = v := ⟨_, rfl⟩
      rw [hv0] at hv
      have hst : upd s g (wrt (s g) o i (lst (s g') o' i' K) (q + 1)) = upd (upd s g (wrt (s g) o i (lst (s g') o' i' K) q)) g (((upd s g (wrt (s g) o i (lst (s g') o' i' K) q)) g).set (o + q * i) v) := by
        rw [upd_upd, upd_self, wrt, hv0]
      have hsl : ∀ x, ((upd s g (wrt (s g) o i (lst (s g') o' i' K) q)) x).length = (s x).length := by
        intro x
        by_cases e : x = g
        · subst e; rw [upd_self, wrt_length]
        · rw [upd_ne e]
      have hne := HM.out
      generalize upd s g (wrt (s g) o i (lst (s g') o' i' K) q) = s1 at *
      have HSt := Lib.hid hst
      have hP : o + q * i < (s1 g).length := by rw [hsl, Hl.out]; exact hR1
      have hQ : o' + q * i' < (s1 g').length := by rw [hsl, Hl'.out]; exact hR2
      have hcell := HHs.out.get Hg'.out hQ
      have hcellP := HHs.out.get Hg.out hP
      have hfzP := (HHs.out g Hg.out).frozen (o + q * i)
      rw [hv] at hcell
      have hPQ : ¬ (g' = g ∧ o' + q * i' = o + q * i) := fun ⟨e1, e2⟩ => hne e1.symm q hlt q hlt e2.symm
      clear hv hv0 hst hsl hne hQ
      obtain ⟨P, hPd⟩ : ∃ P : Nat, o + q * i = P := ⟨_, rfl⟩
      obtain ⟨Q, hQd⟩ : ∃ Q : Nat, o' + q * i' = Q := ⟨_, rfl⟩
      rw [hPd] at hP hcellP hfzP hPQ hR1 HSt
      rw [hQd] at hcell hPQ hR2
      have HPb := Lib.hid (fun W (A : Option Addr) (nn cc oo ii pp : Nat) (h : (A = some ⟨g, 0, none⟩ ∧ nn = n ∧ cc = c ∧ oo = o ∧ ii = i ∧ pp = P) ∨ (A = some ⟨g', 0, none⟩ ∧ nn = n' ∧ cc = c' ∧ oo = o' ∧ ii = i' ∧ pp = Q)) =>
        show Calls Try.prog 34 #[.agg #[.slice A nn cc, .int .i64 oo, .int .i64 K, .int .i64 ii], .int .i64 q] W fun e w' => e = .returned (.int .i64 pp) ∧ Below W.heap.size W w' from by
          rcases h with ⟨rfl, rfl, rfl, rfl, rfl, rfl⟩ | ⟨rfl, rfl, rfl, rfl, rfl, rfl⟩
          · rw [← hPd]; exact HPl1.out W _ _ _ _ _ (.inl ⟨rfl, rfl⟩)
          · rw [← hQd]; exact HPl1.out W _ _ _ _ _ (.inr ⟨rfl, rfl⟩))
      have HPd := Lib.hid hPd
      have HQd := Lib.hid hQd
      have HPQ := Lib.hid hPQ
      have HPs := Lib.hid hP
      generalize (s1 g).getD P 0 = u0 at *
      clear hPd hQd hPQ hP HPl1
      have b1 : (P : Int) < (n : Int) := by omega
      have b2 : (Q : Int) < (n' : Int) := by omega
      have HMid := Lib.hid (Mid.start (s' := upd s1 g ((s1 g).set P v)) HHs.out.drew HC.out.drew)
      have hzz : z ≠ g := by omega
      have hzz' : z + 1 ≠ g := by omega
      go_wp2_with fail
      go_region_held3 (fun w' => w'.cell? ⟨z, 0, none⟩ = some (.slice (some ⟨g, 0, none⟩) n c) ∧ w'.cell? ⟨z, 1, none⟩ = some (.int .i64 o) ∧ w'.cell? ⟨z, 2, none⟩ = some (.int .i64 K) ∧ w'.cell? ⟨z, 3, none⟩ = some (.int .i64 i) ∧ w'.cell? ⟨z + 1, 0, none⟩ = some (.slice (some ⟨g', 0, none⟩) n' c') ∧ w'.cell? ⟨z + 1, 1, none⟩ = some (.int .i64 o') ∧ w'.cell? ⟨z + 1, 2, none⟩ = some (.int .i64 K) ∧ w'.cell? ⟨z + 1, 3, none⟩ = some (.int .i64 i') ∧ w'.cell? ⟨g', Q, none⟩ = some (.float .f64 v) ∧ Mid G w s1 (upd s1 g ((s1 g).set P v)) w')
        (first | exact ⟨c0, c1, c2, c3, d0, d1, d2, d3, hcell, HMid.out⟩ | exact heldQ9 ‹_ ∧ _ ∧ _ ∧ _ ∧ _ ∧ _ ∧ _ ∧ _ ∧ _ ∧ Mid _ _ _ _ _› hbA (fun k => k.nxt hbA) | exact heldS9 _ ‹_ ∧ _ ∧ _ ∧ _ ∧ _ ∧ _ ∧ _ ∧ _ ∧ _ ∧ Mid _ _ _ _ _› (fun k => k.stored Hg.out HPs.out) (fun e => hzz e.1) (fun e => hzz e.1) (fun e => hzz e.1) (fun e => hzz e.1) (fun e => hzz' e.1) (fun e => hzz' e.1) (fun e => hzz' e.1) (fun e => hzz' e.1) HPQ.out)
        (first
          | (go_at_call 34; refine (HPb.out _ _ _ _ _ _ _ (by first | exact .inl ⟨rfl, rfl, rfl, rfl, rfl, rfl⟩ | exact .inr ⟨rfl, rfl, rfl, rfl, rfl, rfl⟩)).mono ?_; rintro e1 wA ⟨rfl, hbA⟩; obtain ⟨u9, r0, r1⟩ := ((‹_ ∧ _ ∧ _ ∧ _ ∧ _ ∧ _ ∧ _ ∧ _ ∧ _ ∧ Mid _ _ _ _ _›).2.2.2.2.2.2.2.2.2).there Hg.out HPs.out; have r2 := cell_below r0 hbA; have r3 := (hbA.frozen (p := ⟨g, P, none⟩) (block_lt r0)).trans r1; clear r0 r1; skip))
      obtain ⟨hs2, hc2⟩ := ((‹_ ∧ _ ∧ _ ∧ _ ∧ _ ∧ _ ∧ _ ∧ _ ∧ _ ∧ Mid _ _ _ _ _›).2.2.2.2.2.2.2.2.2).done Hg.out HPs.out r2
      have HS2 := Lib.hid hs2
      have HC2 := Lib.hid hc2
      obtain ⟨c0, c1, c2, c3, d0, d1, d2, d3, _⟩ := ‹_ ∧ _ ∧ _ ∧ _ ∧ _ ∧ _ ∧ _ ∧ _ ∧ _ ∧ Mid _ _ _ _ _›
      clear hs2 hc2
      go_wp2_with fail
      go_roundw
      case rel => exact ⟨q + 1, by omega, by go_num, c0, c1, c2, c3, d0, d1, d2, d3, by rw [HSt.out]; exact HS2.out, HC2.out⟩
      case measure => simp [intOf]; omega
    · obtain rfl : q = K := by omega
      go_wp2_with fail
      go_ret
      exact ⟨rfl, HHs.out, HC.out⟩
end Go.Proofs.Ytiapminfldbgbaa
