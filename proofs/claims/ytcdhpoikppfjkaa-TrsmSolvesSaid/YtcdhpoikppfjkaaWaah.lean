/-
Cells that a region loads beside calls that make memory: they stay. Conditions: none.
-/
import Derived.Test.YtcdhpoikppfjkaaWaag
import Derived.BigRegion
set_option linter.unusedVariables false
namespace Go.Proofs.Ytcdhpoikppfjkaa
open Go.RowKit

theorem held5 {w W w' : World} {b0 o0 b1 o1 b2 o2 b3 o3 b4 o4 : Nat} {v0 v1 v2 v3 v4 : Value} (h : W.cell? ⟨b0, o0, none⟩ = some v0 ∧ W.cell? ⟨b1, o1, none⟩ = some v1 ∧ W.cell? ⟨b2, o2, none⟩ = some v2 ∧ W.cell? ⟨b3, o3, none⟩ = some v3 ∧ W.cell? ⟨b4, o4, none⟩ = some v4 ∧ Below w.heap.size w W) (hb : Below W.heap.size W w') :
    w'.cell? ⟨b0, o0, none⟩ = some v0 ∧ w'.cell? ⟨b1, o1, none⟩ = some v1 ∧ w'.cell? ⟨b2, o2, none⟩ = some v2 ∧ w'.cell? ⟨b3, o3, none⟩ = some v3 ∧ w'.cell? ⟨b4, o4, none⟩ = some v4 ∧ Below w.heap.size w w' :=
  ⟨cell_below h.1 hb, cell_below h.2.1 hb, cell_below h.2.2.1 hb, cell_below h.2.2.2.1 hb, cell_below h.2.2.2.2.1 hb, h.2.2.2.2.2.trans (hb.mono h.2.2.2.2.2.size)⟩
theorem meet_own (g g' c c' : Nat) (l l' : List Nat) (off r k ld off' r' k' ld' : Int) (w : World) (hO : Own w g l) (hO' : Own w g' l') (hn : l.length < 9223372036854775808) (ho : I64 off) (hr : I64 r) (hk : I64 k) (hi : I64 ld)
    (hn' : l'.length < 9223372036854775808) (ho' : I64 off') (hr' : I64 r') (hk' : I64 k') (hi' : I64 ld') :
    Calls Try.prog 30 #[mat (some ⟨g, 0, none⟩) l.length c off r k ld, mat (some ⟨g', 0, none⟩) l'.length c' off' r' k' ld'] w
      fun e w' => e = .returned (.bool (bothB l.length off r k ld l'.length off' r' k' ld' && decide (g = g') && (decide (off ≤ lastI off' r' k' ld') && decide (off' ≤ lastI off r k ld)))) ∧ Below w.heap.size w w' := by
  cases hb : bothB l.length off r k ld l'.length off' r' k' ld'
  · exact meet_none _ _ c off r k ld _ _ c' off' r' k' ld' w hn ho hr hk hi hn' ho' hr' hk' hi' hb
  · have p0 : 0 < l.length := both_pos hb
    have p0' : 0 < l'.length := by
      unfold bothB at hb
      simp only [Bool.and_eq_true, Bool.not_eq_true', Bool.or_eq_false_iff, beq_eq_false_iff_ne, ne_eq] at hb
      have g1 := of_decide_eq_true hb.1.1.2
      have h0 : 0 ≤ (k' - 1) * ld' := Int.mul_nonneg (by omega) (by omega)
      omega
    by_cases e : g = g'
    · subst e
      have := meet_same g 0 l.length c off r k ld l'.length c' off' r' k' ld' w hn ho hr hk hi hn' ho' hr' hk' hi' hb p0 p0'
      simpa using this
    · have hq : ∀ W, Below w.heap.size w W → (binOp .eql 75 (.pointer (some ⟨g, 0, none⟩)) (.pointer (some ⟨g', 0, none⟩))).run Try.prog W = .ok (.bool false) W := by
        intro W hW
        obtain ⟨cs, hB, ht⟩ := hO'.nxt hW
        refine run_eql_far e ((hO.nxt hW).get 0 p0) ((hO.nxt hW).frozen 0) hB ?_
        have h1 := congrArg List.length ht
        simp [f64s] at h1
        omega
      have := meet_far g 0 l.length c off r k ld g' 0 l'.length c' off' r' k' ld' w hn ho hr hk hi hn' ho' hr' hk' hi' hb p0 p0' hq
      simpa [e] using this
end Go.Proofs.Ytcdhpoikppfjkaa
/-
Vectors that meet, and Pair. Conditions: as each says.
-/
set_option linter.unusedVariables false
namespace Go.Proofs.Ytcdhpoikppfjkaa
open Go.RowKit
attribute [local go_sem ↓] Go.wp_at_zero Go.wp_at_succ

theorem vec_right {n o K i : Nat} (hi : 1 ≤ i) (h : K = 0 ∨ o + (K - 1) * i < n) : vecB n (o : Int) (K : Int) (i : Int) = true := by
  refine decide_eq_true ⟨by omega, by omega, by omega, ?_⟩
  rcases h with h | h
  · exact .inl (by omega)
  · rcases Nat.eq_zero_or_pos K with h0 | h0
    · exact .inl (by omega)
    · refine .inr ?_
      have e : ((K : Int) - 1) * (i : Int) = (((K - 1) * i : Nat) : Int) := by rw [Int.natCast_mul]; congr 1; omega
      rw [e]; omega

end Go.Proofs.Ytcdhpoikppfjkaa
/-
Copy: numbers that are copied. Conditions: the vectors' lists are the call's own, or the caller's.
-/
set_option linter.unusedVariables false
namespace Go.Proofs.Ytcdhpoikppfjkaa
open Go.RowKit
attribute [local go_sem ↓] Go.wp_at_zero Go.wp_at_succ

/-- Between: nothing has changed, or the one list has. -/
def Mid (G : List Nat) (wr : World) (s s' : Nat → List Nat) (w' : World) : Prop := Chg G wr w' ∧ (Has w' G s ∨ Has w' G s')
theorem cell_self {W : World} {g P : Nat} {x u : Value} (hc : W.cell? ⟨g, P, none⟩ = some x) : (W.setCell ⟨g, P, none⟩ u).cell? ⟨g, P, none⟩ = some u := World.cell?_setCell_same' W _ u (by rw [hc]; rfl)
section
variable {G : List Nat} {wr W w' : World} {s : Nat → List Nat} {g P v : Nat}
theorem Mid.start {s' : Nat → List Nat} (h : Has w' G s) (hc : Chg G wr w') : Mid G wr s s' w' := ⟨hc, .inl h⟩
theorem Mid.nxt {s' : Nat → List Nat} (h : Mid G wr s s' W) (hb : Below W.heap.size W w') : Mid G wr s s' w' := ⟨h.1.nxt hb, h.2.imp (fun k => k.nxt hb) (fun k => k.nxt hb)⟩
theorem Mid.there (h : Mid G wr s (upd s g ((s g).set P v)) W) (hg : g ∈ G) (hP : P < (s g).length) : ∃ u, W.cell? ⟨g, P, none⟩ = some (.float .f64 u) ∧ W.frozen? ⟨g, P, none⟩ = false := by
  rcases h.2 with h | h
  · exact ⟨_, h.get hg hP, (h g hg).frozen P⟩
  · refine ⟨_, h.get hg ?_, (h g hg).frozen P⟩
    rw [upd_self, List.length_set]; exact hP
theorem Mid.store (h : Mid G wr s (upd s g ((s g).set P v)) W) (hg : g ∈ G) (hP : P < (s g).length) : Has (W.setCell ⟨g, P, none⟩ (.float .f64 v)) G (upd s g ((s g).set P v)) ∧ Chg G wr (W.setCell ⟨g, P, none⟩ (.float .f64 v)) := by
  refine ⟨?_, h.1.set_in hg _⟩
  rcases h.2 with h | h
  · exact h.set_ hg v hP
  · have := h.set_ hg v (i := P) (by rw [upd_self, List.length_set]; exact hP)
    simpa [upd_self, upd_upd] using this
theorem Mid.stored (h : Mid G wr s (upd s g ((s g).set P v)) W) (hg : g ∈ G) (hP : P < (s g).length) : Mid G wr s (upd s g ((s g).set P v)) (W.setCell ⟨g, P, none⟩ (.float .f64 v)) := ⟨(h.store hg hP).2, .inr (h.store hg hP).1⟩
theorem Mid.done {x : Value} (h : Mid G wr s (upd s g ((s g).set P v)) (W.setCell ⟨g, P, none⟩ (.float .f64 v))) (hg : g ∈ G) (hP : P < (s g).length) (hc : W.cell? ⟨g, P, none⟩ = some x) : Has (W.setCell ⟨g, P, none⟩ (.float .f64 v)) G (upd s g ((s g).set P v)) ∧ Chg G wr (W.setCell ⟨g, P, none⟩ (.float .f64 v)) := by
  refine ⟨?_, h.1⟩
  rcases h.2 with k | k
  · have h1 := k.get hg hP
    rw [cell_self hc] at h1
    have h2 : v = (s g).getD P 0 := by simpa using h1
    have h3 : (s g).set P v = s g := by
      rw [h2, getD_of_lt hP]; exact List.set_getElem_self hP
    rw [h3, upd_same]; exact k
  · exact k
end
theorem cell_set2 {w : World} {b o g i : Nat} (h : ¬ (b = g ∧ o = i)) (u : Value) : (w.setCell ⟨g, i, none⟩ u).cell? ⟨b, o, none⟩ = w.cell? ⟨b, o, none⟩ :=
  World.cell?_setCell_other w ⟨g, i, none⟩ ⟨b, o, none⟩ u (fun e => h (by injection e with e1 e2; exact ⟨e1.symm, e2.symm⟩))
end Go.Proofs.Ytcdhpoikppfjkaa
/-
Swap: numbers that change places. Conditions: the vectors' lists are the call's own, or the caller's.
-/
set_option linter.unusedVariables false
namespace Go.Proofs.Ytcdhpoikppfjkaa
open Go.RowKit
attribute [local go_sem ↓] Go.wp_at_zero Go.wp_at_succ
theorem heldQ8 {W w' : World} {b0 o0 b1 o1 b2 o2 b3 o3 b4 o4 b5 o5 b6 o6 b7 o7 : Nat} {v0 v1 v2 v3 v4 v5 v6 v7 : Value} {R : World → Prop} (h : W.cell? ⟨b0, o0, none⟩ = some v0 ∧ W.cell? ⟨b1, o1, none⟩ = some v1 ∧ W.cell? ⟨b2, o2, none⟩ = some v2 ∧ W.cell? ⟨b3, o3, none⟩ = some v3 ∧ W.cell? ⟨b4, o4, none⟩ = some v4 ∧ W.cell? ⟨b5, o5, none⟩ = some v5 ∧ W.cell? ⟨b6, o6, none⟩ = some v6 ∧ W.cell? ⟨b7, o7, none⟩ = some v7 ∧ R W) (hb : Below W.heap.size W w') (hR : R W → R w') :
    w'.cell? ⟨b0, o0, none⟩ = some v0 ∧ w'.cell? ⟨b1, o1, none⟩ = some v1 ∧ w'.cell? ⟨b2, o2, none⟩ = some v2 ∧ w'.cell? ⟨b3, o3, none⟩ = some v3 ∧ w'.cell? ⟨b4, o4, none⟩ = some v4 ∧ w'.cell? ⟨b5, o5, none⟩ = some v5 ∧ w'.cell? ⟨b6, o6, none⟩ = some v6 ∧ w'.cell? ⟨b7, o7, none⟩ = some v7 ∧ R w' :=
  ⟨cell_below h.1 hb, cell_below h.2.1 hb, cell_below h.2.2.1 hb, cell_below h.2.2.2.1 hb, cell_below h.2.2.2.2.1 hb, cell_below h.2.2.2.2.2.1 hb, cell_below h.2.2.2.2.2.2.1 hb, cell_below h.2.2.2.2.2.2.2.1 hb, hR h.2.2.2.2.2.2.2.2⟩
theorem heldS8 {W : World} {b0 o0 b1 o1 b2 o2 b3 o3 b4 o4 b5 o5 b6 o6 b7 o7 g j : Nat} {v0 v1 v2 v3 v4 v5 v6 v7 : Value} {R : World → Prop} (u : Value) (h : W.cell? ⟨b0, o0, none⟩ = some v0 ∧ W.cell? ⟨b1, o1, none⟩ = some v1 ∧ W.cell? ⟨b2, o2, none⟩ = some v2 ∧ W.cell? ⟨b3, o3, none⟩ = some v3 ∧ W.cell? ⟨b4, o4, none⟩ = some v4 ∧ W.cell? ⟨b5, o5, none⟩ = some v5 ∧ W.cell? ⟨b6, o6, none⟩ = some v6 ∧ W.cell? ⟨b7, o7, none⟩ = some v7 ∧ R W) (hR : R W → R (W.setCell ⟨g, j, none⟩ u)) (n0 : ¬ (b0 = g ∧ o0 = j)) (n1 : ¬ (b1 = g ∧ o1 = j)) (n2 : ¬ (b2 = g ∧ o2 = j)) (n3 : ¬ (b3 = g ∧ o3 = j)) (n4 : ¬ (b4 = g ∧ o4 = j)) (n5 : ¬ (b5 = g ∧ o5 = j)) (n6 : ¬ (b6 = g ∧ o6 = j)) (n7 : ¬ (b7 = g ∧ o7 = j)) :
    (W.setCell ⟨g, j, none⟩ u).cell? ⟨b0, o0, none⟩ = some v0 ∧ (W.setCell ⟨g, j, none⟩ u).cell? ⟨b1, o1, none⟩ = some v1 ∧ (W.setCell ⟨g, j, none⟩ u).cell? ⟨b2, o2, none⟩ = some v2 ∧ (W.setCell ⟨g, j, none⟩ u).cell? ⟨b3, o3, none⟩ = some v3 ∧ (W.setCell ⟨g, j, none⟩ u).cell? ⟨b4, o4, none⟩ = some v4 ∧ (W.setCell ⟨g, j, none⟩ u).cell? ⟨b5, o5, none⟩ = some v5 ∧ (W.setCell ⟨g, j, none⟩ u).cell? ⟨b6, o6, none⟩ = some v6 ∧ (W.setCell ⟨g, j, none⟩ u).cell? ⟨b7, o7, none⟩ = some v7 ∧ R (W.setCell ⟨g, j, none⟩ u) :=
  ⟨(cell_set2 n0 u).trans h.1, (cell_set2 n1 u).trans h.2.1, (cell_set2 n2 u).trans h.2.2.1, (cell_set2 n3 u).trans h.2.2.2.1, (cell_set2 n4 u).trans h.2.2.2.2.1, (cell_set2 n5 u).trans h.2.2.2.2.2.1, (cell_set2 n6 u).trans h.2.2.2.2.2.2.1, (cell_set2 n7 u).trans h.2.2.2.2.2.2.2.1, hR h.2.2.2.2.2.2.2.2⟩

end Go.Proofs.Ytcdhpoikppfjkaa
/-
Parts and rows of a matrix. Conditions: the numbers are of an int's range.
-/
set_option linter.unusedVariables false
namespace Go.Proofs.Ytcdhpoikppfjkaa
open Go.RowKit
attribute [local go_sem ↓] Go.wp_at_zero Go.wp_at_succ

theorem heldW5 {W w' : World} {b0 o0 b1 o1 b2 o2 b3 o3 b4 o4 g : Nat} {v0 v1 v2 v3 v4 : Value} {R : World → Prop} (h : W.cell? ⟨b0, o0, none⟩ = some v0 ∧ W.cell? ⟨b1, o1, none⟩ = some v1 ∧ W.cell? ⟨b2, o2, none⟩ = some v2 ∧ W.cell? ⟨b3, o3, none⟩ = some v3 ∧ W.cell? ⟨b4, o4, none⟩ = some v4 ∧ R W) (hk : ∀ b o, b ≠ g → w'.cell? ⟨b, o, none⟩ = W.cell? ⟨b, o, none⟩) (n0 : b0 ≠ g) (n1 : b1 ≠ g) (n2 : b2 ≠ g) (n3 : b3 ≠ g) (n4 : b4 ≠ g) (hR : R W → R w') :
    w'.cell? ⟨b0, o0, none⟩ = some v0 ∧ w'.cell? ⟨b1, o1, none⟩ = some v1 ∧ w'.cell? ⟨b2, o2, none⟩ = some v2 ∧ w'.cell? ⟨b3, o3, none⟩ = some v3 ∧ w'.cell? ⟨b4, o4, none⟩ = some v4 ∧ R w' :=
  ⟨(hk _ _ n0).trans h.1, (hk _ _ n1).trans h.2.1, (hk _ _ n2).trans h.2.2.1, (hk _ _ n3).trans h.2.2.2.1, (hk _ _ n4).trans h.2.2.2.2.1, hR h.2.2.2.2.2⟩
theorem cell_sets4 {w : World} {b o g : Nat} (h : b ≠ g) (x0 x1 x2 x3 : Value) : ((((w.setCell ⟨g, 0, none⟩ x0).setCell ⟨g, 1, none⟩ x1).setCell ⟨g, 2, none⟩ x2).setCell ⟨g, 3, none⟩ x3).cell? ⟨b, o, none⟩ = w.cell? ⟨b, o, none⟩ := by
  rw [cell_set h, cell_set h, cell_set h, cell_set h]
theorem below_sets4 {B g : Nat} {a w : World} (h : Below B a w) (hg : B ≤ g) (x0 x1 x2 x3 : Value) : Below B a ((((w.setCell ⟨g, 0, none⟩ x0).setCell ⟨g, 1, none⟩ x1).setCell ⟨g, 2, none⟩ x2).setCell ⟨g, 3, none⟩ x3) :=
  (((h.setCell (p := ⟨g, 0, none⟩) hg x0).setCell (p := ⟨g, 1, none⟩) hg x1).setCell (p := ⟨g, 2, none⟩) hg x2).setCell (p := ⟨g, 3, none⟩) hg x3
theorem below_sets5 {B g : Nat} {a w : World} (h : Below B a w) (hg : B ≤ g) (x0 x1 x2 x3 x4 : Value) : Below B a (((((w.setCell ⟨g, 0, none⟩ x0).setCell ⟨g, 1, none⟩ x1).setCell ⟨g, 2, none⟩ x2).setCell ⟨g, 3, none⟩ x3).setCell ⟨g, 4, none⟩ x4) :=
  (below_sets4 h hg x0 x1 x2 x3).setCell (p := ⟨g, 4, none⟩) hg x4
theorem Blk.store4v {w : World} {g : Nat} {t : TypeId} {x0 x1 x2 x3 : Value} (h : Blk w g t #[x0, x1, x2, x3]) (u0 u1 u2 u3 : Value) :
    Blk ((((w.setCell ⟨g, 0, none⟩ u0).setCell ⟨g, 1, none⟩ u1).setCell ⟨g, 2, none⟩ u2).setCell ⟨g, 3, none⟩ u3) g t #[u0, u1, u2, u3] := h.store4 u0 u1 u2 u3

@[go_sem] theorem run_field_Off (A : Option Addr) (n c : Nat) (off r k ld : Int) (w : World) :
    (Instr.field 24 (.agg #[.slice A n c, .int .i64 off, .int .i64 r, .int .i64 k, .int .i64 ld]) 1).run Try.prog w = .ok (.int .i64 off) w := by kernel_rfl

/-- Are n places from i on among all? -/
def fitsB (i n all : Int) : Bool := decide (0 ≤ i ∧ 0 ≤ n ∧ n ≤ all - i)
theorem fits_any (i n all : Int) (w : World) (hi : I64 i) (hn : I64 n) (ha : 0 ≤ all ∧ all < 9223372036854775808) :
    Calls Try.prog 64 #[.int .i64 i, .int .i64 n, .int .i64 all] w fun e w' => e = .returned (.bool (fitsB i n all)) ∧ w = w' := by
  unfold I64 at hi hn
  by_cases h1 : 0 ≤ i
  · have u1 : wrap64 (all - i) = all - i := by unfold wrap64; omega
    by_cases h2 : 0 ≤ n
    · have hv : fitsB i n all = decide (n ≤ all - i) := decide_eq_decide.2 (by omega)
      rw [hv]
      go_enter Try.func64, Try.ntmps64
      go_wp2
      all_goals
        go_ret
        exact ⟨ret_bool (by simp), rfl⟩
    · have hv : fitsB i n all = false := decide_eq_false (by omega)
      rw [hv]
      have d2 : decide (0 ≤ n) = false := by simp; omega
      go_enter Try.func64, Try.ntmps64
      go_wp2
      all_goals
        go_ret
        exact ⟨ret_bool (by simp), rfl⟩
  · have hv : fitsB i n all = false := decide_eq_false (by omega)
    rw [hv]
    have d1 : decide (0 ≤ i) = false := by simp; omega
    go_enter Try.func64, Try.ntmps64
    go_wp2
    all_goals
      go_ret
      exact ⟨ret_bool (by simp), rfl⟩

/-- There is such a part. -/
def partB (n : Nat) (off r k ld i j rows cols : Int) : Bool := matB n off r k ld && fitsB i rows r && fitsB j cols k
/-- Where a part begins. -/
def partOff (off ld i j rows cols : Int) : Int := if rows = 0 ∨ cols = 0 then off else off + i + j * ld
theorem part_some (A : Option Addr) (n c : Nat) (off r k ld i j rows cols : Int) (w : World) (hn : n < 9223372036854775808) (ho : I64 off) (hr : I64 r) (hk : I64 k) (hi : I64 ld) (h1 : I64 i) (h2 : I64 j) (h3 : I64 rows) (h4 : I64 cols) (h : partB n off r k ld i j rows cols = true) :
    Calls Try.prog 53 #[mat A n c off r k ld, .int .i64 i, .int .i64 j, .int .i64 rows, .int .i64 cols] w fun e w' => e = .returned (mat A n c (partOff off ld i j rows cols) rows cols ld) ∧ Below w.heap.size w w' := by
  unfold partB at h
  simp only [Bool.and_eq_true] at h
  obtain ⟨⟨g1, g2⟩, g3⟩ := h
  have q1 := of_decide_eq_true g1
  have q2 := of_decide_eq_true g2
  have q3 := of_decide_eq_true g3
  have hr' := hr
  have hk' := hk
  unfold I64 at hr' hk'
  have HG := Lib.hid (fun W => good_any A n c off r k ld W hn ho hr hk hi)
  have HF1 := Lib.hid (fun W => fits_any i rows r W h1 h3 (by omega))
  have HF2 := Lib.hid (fun W => fits_any j cols k W h2 h4 (by omega))
  have HN := Lib.hid (fun W => none_any A n c off rows cols ld W)
  rw [g1] at HG
  rw [g2] at HF1
  rw [g3] at HF2
  obtain ⟨p, hp⟩ : ∃ p, partOff off ld i j rows cols = p := ⟨_, rfl⟩
  have HPl := Lib.hid (fun W (hz : (rows == 0 || cols == 0) = false) => place_any A n c off r k ld i j p W (by rw [← hp]; unfold partOff; rw [if_neg (by simpa using hz)]) (by
      have : ¬ (rows = 0 ∨ cols = 0) := by simpa using hz
      have e : j * ld ≤ (k - 1) * ld := Int.mul_le_mul_of_nonneg_right (by omega) (by omega)
      have e0 : 0 ≤ j * ld := Int.mul_nonneg (by omega) (by omega)
      unfold I64 at *; omega) (by
      have : ¬ (rows = 0 ∨ cols = 0) := by simpa using hz
      have e : j * ld ≤ (k - 1) * ld := Int.mul_le_mul_of_nonneg_right (by omega) (by omega)
      have e0 : 0 ≤ j * ld := Int.mul_nonneg (by omega) (by omega)
      unfold I64 at *; omega) (by
      have : ¬ (rows = 0 ∨ cols = 0) := by simpa using hz
      have e : j * ld ≤ (k - 1) * ld := Int.mul_le_mul_of_nonneg_right (by omega) (by omega)
      have e0 : 0 ≤ j * ld := Int.mul_nonneg (by omega) (by omega)
      rw [← hp]; unfold partOff; rw [if_neg this]
      unfold I64 at *; omega))
  have HPo := Lib.hid (fun (hz : (rows == 0 || cols == 0) = true) => show p = off by rw [← hp]; unfold partOff; rw [if_pos (by simpa using hz)])
  rw [hp]
  generalize (rows == 0 || cols == 0) = x at *
  clear hn ho hr hk hi h1 h2 h3 h4 g1 g2 g3 q1 q2 q3 hr' hk' hp
  unfold mat at *
  go_enter Try.func53, Try.ntmps53
  have HZ0 := Lib.hid ((Blk.new w 24 #[.slice A n c, .int .i64 off, .int .i64 r, .int .i64 k, .int .i64 ld]).alloc (.cells #[.slice none 0 0, .int .i64 0, .int .i64 0, .int .i64 0, .int .i64 0] 24))
  have HZ1 := Lib.hid (Blk.new_ (w.alloc (.cells #[.slice A n c, .int .i64 off, .int .i64 r, .int .i64 k, .int .i64 ld] 24)) 24 #[.slice none 0 0, .int .i64 0, .int .i64 0, .int .i64 0, .int .i64 0] (w.heap.size + 1) (by simp))
  have HB0 := Lib.hid (((Below.refl w.heap.size w).alloc (Nat.le_refl _) (.cells #[.slice A n c, .int .i64 off, .int .i64 r, .int .i64 k, .int .i64 ld] 24)).alloc (by simp) (.cells #[.slice none 0 0, .int .i64 0, .int .i64 0, .int .i64 0, .int .i64 0] 24))
  go_wp2_with fail
  refine (HG.out _).mono ?_
  rintro e w1 ⟨rfl, hb⟩
  have HZ2 := Lib.hid (HZ0.out.nxt hb)
  have HZ3 := Lib.hid (HZ1.out.nxt hb)
  have HB1 := Lib.hid (HB0.out.trans (hb.mono HB0.out.size))
  clear hb
  obtain ⟨c0, c1, c2, c3, c4⟩ := cells5 HZ2.out
  go_wp2_with fail
  refine (HF1.out _).mono ?_
  rintro e w2 ⟨rfl, rfl⟩
  go_wp2_with fail
  refine (HF2.out _).mono ?_
  rintro e w2 ⟨rfl, rfl⟩
  go_wp2_with fail
  refine (HN.out _).mono ?_
  rintro e w2 ⟨rfl, hb⟩
  have HZ4 := Lib.hid ((HZ2.out.alloc (.cells #[.slice A n c, .int .i64 off, .int .i64 rows, .int .i64 cols, .int .i64 ld] 24)).nxt hb)
  have HZ5 := Lib.hid ((HZ3.out.alloc (.cells #[.slice A n c, .int .i64 off, .int .i64 rows, .int .i64 cols, .int .i64 ld] 24)).nxt hb)
  have HZ6 := Lib.hid ((Blk.new w1 24 #[.slice A n c, .int .i64 off, .int .i64 rows, .int .i64 cols, .int .i64 ld]).nxt hb)
  have hb2 := HB1.out.alloc HB1.out.size (.cells #[.slice A n c, .int .i64 off, .int .i64 rows, .int .i64 cols, .int .i64 ld] 24)
  have HB2 := Lib.hid (hb2.trans (hb.mono hb2.size))
  have hq : w.heap.size + 1 < w1.heap.size := HZ3.out.lt
  clear hb hb2 c0 c1 c2 c3 c4
  generalize hz : w1.heap.size = q at *
  clear hz
  obtain ⟨c0, c1, c2, c3, c4⟩ := cells5 HZ4.out
  obtain ⟨d0, d1, d2, d3, d4⟩ := cells5 HZ5.out
  obtain ⟨f0, f1, f2, f3, f4⟩ := frozen5 HZ5.out
  obtain ⟨a0, a1, a2, a3, a4⟩ := cells5 HZ6.out
  obtain ⟨x0, x1, x2, x3, x4⟩ := frozen5 HZ6.out
  cases x
  · have HPl2 := Lib.hid (fun W => HPl.out W (by trivial))
    clear HPl HPo
    go_wp2_with fail
    refine (HPl2.out _).mono ?_
    rintro e w3 ⟨rfl, hb⟩
    clear c0 c1 c2 c3 c4 d0 d1 d2 d3 d4 f0 f1 f2 f3 f4 a0 a1 a2 a3 a4 x0 x1 x2 x3 x4
    have HZ7 := Lib.hid (HZ5.out.nxt hb)
    have HZ8 := Lib.hid (HZ6.out.nxt hb)
    have HB3 := Lib.hid (HB2.out.trans (hb.mono HB2.out.size))
    clear hb
    have hz9 : Blk (w3.setCell ⟨q, 1, none⟩ (.int .i64 p)) q 24 #[.slice A n c, .int .i64 p, .int .i64 rows, .int .i64 cols, .int .i64 ld] := by simpa using HZ8.out.set_ 1 (.int .i64 p)
    have HZ9 := Lib.hid hz9
    have HZ10 := Lib.hid (HZ7.out.other (p := ⟨q, 1, none⟩) (by show _ ≠ q; omega) (.int .i64 p))
    have HB4 := Lib.hid (HB3.out.setCell (p := ⟨q, 1, none⟩) (by show _ ≤ q; omega) (.int .i64 p))
    obtain ⟨a0, a1, a2, a3, a4⟩ := cells5 HZ8.out
    obtain ⟨x0, x1, x2, x3, x4⟩ := frozen5 HZ8.out
    go_upto_region 6 with fail
    generalize w3.setCell ⟨q, 1, none⟩ (.int .i64 p) = W9 at *
    clear a0 a1 a2 a3 a4 x0 x1 x2 x3 x4
    obtain ⟨a0, a1, a2, a3, a4⟩ := cells5 HZ9.out
    obtain ⟨d0, d1, d2, d3, d4⟩ := cells5 HZ10.out
    obtain ⟨f0, f1, f2, f3, f4⟩ := frozen5 HZ10.out
    have HSt := Lib.hid (HZ10.out.store5 (.slice A n c) (.int .i64 p) (.int .i64 rows) (.int .i64 cols) (.int .i64 ld))
    have HBe := Lib.hid (below_sets5 HB4.out (show w.heap.size ≤ w.heap.size + 1 by omega) (.slice A n c) (.int .i64 p) (.int .i64 rows) (.int .i64 cols) (.int .i64 ld))
    go_wp2_with fail
    obtain ⟨j0, j1, j2, j3, j4⟩ := cells5 HSt.out
    exact bodyPost_ret (v := mat A n c p rows cols ld) (by simp [results, Try.results53, go_sem, j0, j1, j2, j3, j4, mat]) rfl ⟨rfl, HBe.out⟩
  · obtain rfl := HPo.out (by trivial)
    clear HPl HPo
    have HSt := Lib.hid (HZ5.out.store5 (.slice A n c) (.int .i64 p) (.int .i64 rows) (.int .i64 cols) (.int .i64 ld))
    have HBe := Lib.hid (below_sets5 HB2.out (show w.heap.size ≤ w.heap.size + 1 by omega) (.slice A n c) (.int .i64 p) (.int .i64 rows) (.int .i64 cols) (.int .i64 ld))
    go_wp2_with fail
    obtain ⟨j0, j1, j2, j3, j4⟩ := cells5 HSt.out
    exact bodyPost_ret (v := mat A n c p rows cols ld) (by simp [results, Try.results53, go_sem, j0, j1, j2, j3, j4, mat]) rfl ⟨rfl, HBe.out⟩

end Go.Proofs.Ytcdhpoikppfjkaa
