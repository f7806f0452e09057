/-
GemvTurns: what the walk keeps of its tables. Conditions: as each says.
-/
import Derived.Test.YtlhdcajamempoaaZGuD
import Derived.Test.YtlhdcajamempoaaZVwI
set_option linter.unusedVariables false
set_option linter.unusedSimpArgs false
set_option linter.unnecessarySimpa false
namespace Go.Proofs.Ytlhdcajamempoaa
open Go.RowKit
attribute [local go_sem ↓] Go.wp_at_zero Go.wp_at_succ

/-- A table filled row by row with whole numbers. -/
def TabX (N : Nat) (pos : Nat → Nat → Nat) (r c : Nat) (A : Nat → Nat → Int) (i j g : Nat) (W : World) : Prop := ∃ M, Ptb N pos r c (fun i j v => EX v (A i j)) i j M ∧ Own W g M
theorem TabX.keep {N : Nat} {pos : Nat → Nat → Nat} {r c : Nat} {A : Nat → Nat → Int} {i j g z : Nat} {W W' : World} (h : TabX N pos r c A i j g W) (hb : Below z W W') (hg : g < z) : TabX N pos r c A i j g W' := by
  obtain ⟨M, h1, cs, h2, h3⟩ := h
  exact ⟨M, h1, cs, (hb.block g hg).trans h2, h3⟩
theorem TabX.only {N : Nat} {pos : Nat → Nat → Nat} {r c : Nat} {A : Nat → Nat → Int} {i j g k : Nat} {W W' : World} (h : TabX N pos r c A i j g W) (hb : Only k W W') (hg : g ≠ k) : TabX N pos r c A i j g W' := by
  obtain ⟨M, h1, h2⟩ := h
  exact ⟨M, h1, h2.only hb hg⟩
theorem TabX.next {N : Nat} {pos : Nat → Nat → Nat} {r c : Nat} {A : Nat → Nat → Int} {i g : Nat} {W : World} (h : TabX N pos r c A i c g W) : TabX N pos r c A (i + 1) 0 g W := by
  obtain ⟨M, h1, h2⟩ := h
  exact ⟨M, h1.next, h2⟩
theorem gu_pos {r c N i j : Nat} (hN : r * c = N) (h8 : r ≤ 8) (k8 : c ≤ 8) (hi : i < r) (hj : j < c) : i + j * r < N ∧ j + i * c < N ∧ N ≤ 64 := by
  have h1 := tab_lt hj hi
  have h2 := tab_lt hi hj
  rw [Nat.mul_comm c r] at h1
  have h3 : N ≤ 8 * 8 := by rw [← hN]; exact Nat.mul_le_mul h8 k8
  omega
theorem gu_there {r c N i j : Nat} (hN : r * c = N) (hi : i < r) (hj : j < c) : thereB N 0 r c r i j = true := by
  have h1 : matB N 0 r c r = true := by
    have := tab_lt (r := c) (k := r) (i := c - 1) (j := r - 1) (by omega) (by omega)
    rw [Nat.mul_comm c r, hN] at this
    exact mat_right (o := 0) (by omega) (Nat.le_refl _) (by right; right; omega)
  unfold thereB
  rw [h1]
  simp
  omega
theorem gu_setA {r c N i j g v : Nat} {A : Nat → Nat → Int} (W : World) (hN : r * c = N) (h8 : r ≤ 8) (k8 : c ≤ 8) (hi : i < r) (hj : j < c) (h : TabX N (fun i j => i + j * r) r c A i j g W) (hv : EX v (A i j)) :
    Calls Try.prog 9 #[.agg #[.slice (some ⟨g, 0, none⟩) N N, .int .i64 (0 : Int), .int .i64 (r : Int), .int .i64 (c : Int), .int .i64 (r : Int)], .int .i64 i, .int .i64 j, .float .f64 v] W fun e w' => e = .returned (.bool true) ∧ TabX N (fun i j => i + j * r) r c A i (j + 1) g w' ∧ Only g W w' := by
  obtain ⟨M, h1, h2⟩ := h
  obtain ⟨p1, p2, p3⟩ := gu_pos hN h8 k8 hi hj
  have hl := h1.1
  subst hl
  refine (show Calls Try.prog 9 #[.agg #[.slice (some ⟨g, 0, none⟩) M.length M.length, .int .i64 (0 : Int), .int .i64 (r : Int), .int .i64 (c : Int), .int .i64 (r : Int)], .int .i64 i, .int .i64 j, .float .f64 v] W _ from set_there g M.length M 0 r c r i j v (i + j * r) W h2 (by omega) (by unfold I64; omega) (by unfold I64; omega) (by unfold I64; omega) (by unfold I64; omega) (gu_there hN hi hj) (by simp)).mono ?_
  rintro e w' ⟨rfl, a1, a2⟩
  exact ⟨rfl, ⟨_, h1.step (fun a ha b hb e => by have e := spots_inj (L := r) ha hi e; exact e) p1 hv, a1⟩, a2⟩
theorem gu_setB {r c N i j g v : Nat} {A : Nat → Nat → Int} (W : World) (hN : r * c = N) (h8 : r ≤ 8) (k8 : c ≤ 8) (hi : i < r) (hj : j < c) (h : TabX N (fun i j => j + i * c) r c A i j g W) (hv : EX v (A i j)) :
    Calls Try.prog 9 #[.agg #[.slice (some ⟨g, 0, none⟩) N N, .int .i64 (0 : Int), .int .i64 (c : Int), .int .i64 (r : Int), .int .i64 (c : Int)], .int .i64 j, .int .i64 i, .float .f64 v] W fun e w' => e = .returned (.bool true) ∧ TabX N (fun i j => j + i * c) r c A i (j + 1) g w' ∧ Only g W w' := by
  obtain ⟨M, h1, h2⟩ := h
  obtain ⟨p1, p2, p3⟩ := gu_pos hN h8 k8 hi hj
  have hl := h1.1
  subst hl
  refine (show Calls Try.prog 9 #[.agg #[.slice (some ⟨g, 0, none⟩) M.length M.length, .int .i64 (0 : Int), .int .i64 (c : Int), .int .i64 (r : Int), .int .i64 (c : Int)], .int .i64 j, .int .i64 i, .float .f64 v] W _ from set_there g M.length M 0 c r c j i v (j + i * c) W h2 (by omega) (by unfold I64; omega) (by unfold I64; omega) (by unfold I64; omega) (by unfold I64; omega) (gu_there (by rw [Nat.mul_comm]; exact hN) hj hi) (by simp)).mono ?_
  rintro e w' ⟨rfl, a1, a2⟩
  exact ⟨rfl, ⟨_, h1.step (fun a ha b hb e => by have e := spots_inj (L := c) hb hj e; exact ⟨e.2, e.1⟩) p2 hv, a1⟩, a2⟩
/-- What the walk keeps: the boxes, both tables. -/
def GuT (w : World) (z zA gA gB r c N : Nat) (A : Nat → Nat → Int) (i j i' j' : Nat) (W : World) : Prop :=
  Below w.heap.size w W ∧ z ≤ W.heap.size ∧ Blk W zA 26 #[.slice (some ⟨gA, 0, none⟩) N N, .int .i64 (0 : Int), .int .i64 (r : Int), .int .i64 (c : Int), .int .i64 (r : Int)] ∧ Blk W (zA + 1) 26 #[.slice (some ⟨gB, 0, none⟩) N N, .int .i64 (0 : Int), .int .i64 (c : Int), .int .i64 (r : Int), .int .i64 (c : Int)] ∧ TabX N (fun i j => i + j * r) r c A i j gA W ∧ TabX N (fun i j => j + i * c) r c A i' j' gB W
def GuS (w : World) (z zA gA gB : Nat) : Prop := w.heap.size ≤ gA ∧ gA < gB ∧ gB < zA ∧ zA + 2 ≤ z
theorem GuT.keep {w : World} {z zA gA gB r c N : Nat} {A : Nat → Nat → Int} {i j i' j' : Nat} {W W' : World} (h : GuT w z zA gA gB r c N A i j i' j' W) (hs : GuS w z zA gA gB) (hb : Below z W W') : GuT w z zA gA gB r c N A i j i' j' W' := by
  obtain ⟨h1, h2, h3, h4, h5, h6⟩ := h
  obtain ⟨s1, s2, s3, s4⟩ := hs
  exact ⟨h1.trans (hb.mono (by omega)), Nat.le_trans h2 hb.size, (hb.block _ (by omega)).trans h3, (hb.block _ (by omega)).trans h4, h5.keep hb (by omega), h6.keep hb (by omega)⟩
theorem GuT.setA {w : World} {z zA gA gB r c N : Nat} {A : Nat → Nat → Int} {i j i' j' j2 : Nat} {W W' : World} (h : GuT w z zA gA gB r c N A i j i' j' W) (hs : GuS w z zA gA gB) (hO : Only gA W W') (ht : TabX N (fun i j => i + j * r) r c A i j2 gA W') : GuT w z zA gA gB r c N A i j2 i' j' W' := by
  obtain ⟨h1, h2, h3, h4, h5, h6⟩ := h
  obtain ⟨s1, s2, s3, s4⟩ := hs
  exact ⟨hO.below h1 h1.size s1, Nat.le_trans h2 hO.size, hO.blk (by omega) h3, hO.blk (by omega) h4, ht, h6.only hO (by omega)⟩
theorem GuT.setB {w : World} {z zA gA gB r c N : Nat} {A : Nat → Nat → Int} {i j i' j' j2 : Nat} {W W' : World} (h : GuT w z zA gA gB r c N A i j i' j' W) (hs : GuS w z zA gA gB) (hO : Only gB W W') (ht : TabX N (fun i j => j + i * c) r c A i' j2 gB W') : GuT w z zA gA gB r c N A i j i' j2 W' := by
  obtain ⟨h1, h2, h3, h4, h5, h6⟩ := h
  obtain ⟨s1, s2, s3, s4⟩ := hs
  exact ⟨hO.below h1 h1.size (by omega), Nat.le_trans h2 hO.size, hO.blk (by omega) h3, hO.blk (by omega) h4, h5.only hO (by omega), ht⟩
/-- The list that is made: its numbers. -/
def GuV (z : Nat) (V : List Int) (v : Value) (i : Nat) (L : List Nat) (W : World) : Prop := L.length = i ∧ (∀ k, k < i → EX (L.getD k 0) (V.getD k 0)) ∧ W.ownsRow z 28 1 v i (f64s L)
theorem GuV.below {z : Nat} {V : List Int} {v : Value} {i : Nat} {L : List Nat} {W W' : World} (h : GuV z V v i L W) (hb : Below W.heap.size W W') : GuV z V v i L W' := ⟨h.1, h.2.1, ownsRow_below h.2.2 hb⟩
theorem GuV.only {z g : Nat} {V : List Int} {v : Value} {i : Nat} {L : List Nat} {W W' : World} (h : GuV z V v i L W) (hO : Only g W W') (hg : g < z) : GuV z V v i L W' :=
  ⟨h.1, h.2.1, h.2.2.kept hO (.inr fun e => by have := (h.2.2.lt g e).1; omega)⟩
theorem i8_at {A : Option Addr} {l : List Int} {n k : Nat} {W : World} (h : Row W A (i8s l)) (hl : l.length = n) (hk : k < n) : ∃ b o, A = some ⟨b, o, none⟩ ∧ W.cell? ⟨b, o + k, none⟩ = some (.int .i8 (l.getD k 0)) := by
  obtain ⟨b, o, e, _, hc⟩ := h.at_ (i8s_get l k (by omega))
  refine ⟨b, o, e, ?_⟩
  have : l.getD k 0 = l[k]'(by omega) := by simp [List.getD, show k < l.length by omega]
  rw [this]
  exact hc
theorem i8_ex {l : List Int} {n k : Nat} (h : ∀ z ∈ l, I8 z) (hl : l.length = n) (hk : k < n) : EX (floatOfInt .f64 (l.getD k 0)) (l.getD k 0) := by
  refine int_word (h _ ?_)
  have : l.getD k 0 = l[k]'(by omega) := by simp [List.getD, show k < l.length by omega]
  rw [this]
  exact List.getElem_mem _
end Go.Proofs.Ytlhdcajamempoaa
