/-
GemvTurns: the two calls. Conditions: as each says.
-/
import Derived.Test.YtlhdcajamempoaaZGuB
import Derived.Test.YtlhdcajamempoaaZGvT
import Derived.Test.YtlhdcajamempoaaZGvM
import Derived.Test.YtlhdcajamempoaaGu
set_option linter.unusedVariables false
set_option linter.unusedSimpArgs false
set_option linter.unnecessarySimpa false
namespace Go.Proofs.Ytlhdcajamempoaa
open Go.RowKit
attribute [local go_sem ↓] Go.wp_at_zero Go.wp_at_succ

theorem wds_tabu {M : List Nat} {R C N : Nat} (hN : R * C = N) (hl : M.length = N) (h : ∀ i, i < R → ∀ j, j < C → M.getD (i + j * R) 0 < 18446744073709551616) : Wds M := by
  intro b hb
  obtain ⟨k, hk, rfl⟩ := List.mem_iff_getElem.1 hb
  rw [← getD_of_lt hk]
  rw [hl, ← hN] at hk
  have hR : 0 < R := by
    rcases Nat.eq_zero_or_pos R with e | e
    · subst e; simp at hk
    · exact e
  have e : k % R + k / R * R = k := by rw [Nat.mul_comm]; exact Nat.mod_add_div k R
  have := h (k % R) (Nat.mod_lt _ hR) (k / R) (Nat.div_lt_of_lt_mul hk)
  rwa [e] at this
theorem gu_fits (g gm gx cy cx : Nat) (lz M v : List Nat) (R C K X N : Nat) (L : Nat) (W : World) (hO : Own W g lz) (hM : Own W gm M) (hX : Own W gx v) (h1 : g ≠ gm) (h2 : g ≠ gx) (hz : lz.length = K) (hMl : M.length = N) (hv : v.length = X) (hN : N < 1048576) (hKb : K ≤ 8) (hXb : X ≤ 8) (hRb : R ≤ 8) (hCb : C ≤ 8) (hL1 : 1 ≤ L) (hLb : L ≤ 8) (hRL : R ≤ L) (hmr : R = 0 ∨ C = 0 ∨ 0 + (C - 1) * L + (R - 1) < N) :
    Calls Try.prog 45 #[mat (some ⟨gm, 0, none⟩) N N (0 : Nat) R C L, vec (some ⟨gx, 0, none⟩) X cx (0 : Nat) X (1 : Nat), vec (some ⟨g, 0, none⟩) K cy (0 : Nat) K (1 : Nat), .int .i64 (X : Int), .int .i64 (K : Int)] W fun e w' => e = .returned (.int .i64 0) ∧ Below W.heap.size W w' := by
  have z0 : I64 ((0 : Nat) : Int) := by unfold I64; omega
  have z1 : I64 ((1 : Nat) : Int) := by unfold I64; omega
  have zR : I64 (R : Int) := by unfold I64; omega
  have zC : I64 (C : Int) := by unfold I64; omega
  have zK : I64 (K : Int) := by unfold I64; omega
  have zX : I64 (X : Int) := by unfold I64; omega
  have zL : I64 (L : Int) := by unfold I64; omega
  have zo : I64 1 := by unfold I64; omega
  have hv1 : X = 0 ∨ 0 + (X - 1) * 1 < X := by omega
  have hk1 : K = 0 ∨ 0 + (K - 1) * 1 < K := by omega
  refine gvfits_ok (some ⟨gm, 0, none⟩) N N (0 : Nat) R C L (some ⟨gx, 0, none⟩) X cx (0 : Nat) X (1 : Nat) (some ⟨g, 0, none⟩) K cy (0 : Nat) K (1 : Nat) W (by omega) z0 zR zC zL (by omega) z0 zX z1 (by omega) z0 zK z1 (by rw [mat_right hL1 hRL hmr, vec_right (by omega) hv1, vec_right (by omega) hk1]; rfl) (fun W2 hb2 => ?_) (fun W2 hb2 => ?_)
  · have := meet_own g gm cy N lz M ((0 : Nat) : Int) 1 (K : Int) ((1 : Nat) : Int) ((0 : Nat) : Int) (R : Int) (C : Int) (L : Int) W2 (hO.nxt hb2) (hM.nxt hb2) (by omega) z0 zo zK z1 (by omega) z0 zR zC zL
    rw [show decide (g = gm) = false from decide_eq_false h1, Bool.and_false, Bool.false_and, hz, hMl] at this
    exact this
  · have := meet_own g gx cy cx lz v ((0 : Nat) : Int) 1 (K : Int) ((1 : Nat) : Int) ((0 : Nat) : Int) 1 (X : Int) ((1 : Nat) : Int) W2 (hO.nxt hb2) (hX.nxt hb2) (by omega) z0 zo zK z1 (by omega) z0 zo zX z1
    rw [show decide (g = gx) = false from decide_eq_false h2, Bool.and_false, Bool.false_and, hz, hv] at this
    exact this
/-- The product turned about. -/
theorem gu_turn (g gm gx cy cx : Nat) (M v : List Nat) (R C N : Nat) (A : Nat → Nat → Int) (X : Nat → Int) (W : World) (hO : Own W g (List.replicate C 0)) (hM : Own W gm M) (hX : Own W gx v) (h1 : g ≠ gm) (h2 : g ≠ gx) (hN : R * C = N) (hR1 : 1 ≤ R) (hR8 : R ≤ 8) (hC1 : 1 ≤ C) (hC8 : C ≤ 8) (hMl : M.length = N) (hv : v.length = R)
    (hA : ∀ i, i < R → ∀ j, j < C → EX (M.getD (i + j * R) 0) (A i j)) (hXv : ∀ i, i < R → EX (v.getD i 0) (X i)) (bP : ∀ i j, (A i j * X i).natAbs ≤ 16384) :
    Calls Try.prog 10 #[.float .f64 TWOW, mat (some ⟨gm, 0, none⟩) N N (0 : Nat) R C R, vec (some ⟨gx, 0, none⟩) R cx (0 : Nat) R (1 : Nat), .float .f64 0, vec (some ⟨g, 0, none⟩) C cy (0 : Nat) C (1 : Nat)] W fun e w' => e = .returned (.int .i64 0) ∧
      ∃ m : List Nat, m.length = C ∧ (∀ q, q < C → EX (m.getD q 0) (2 * dotZ (fun i => A i q) X R)) ∧ Own w' g m ∧ Chg [g] W w' := by
  have hNb : N ≤ 64 := by rw [← hN]; exact Nat.mul_le_mul hR8 hC8
  have hmr : R = 0 ∨ C = 0 ∨ 0 + (C - 1) * R + (R - 1) < N := by
    right; right
    have := tab_lt (r := C) (k := R) (i := C - 1) (j := R - 1) (by omega) (by omega)
    rw [Nat.mul_comm C R, hN] at this
    omega
  have hWm : Wds M := wds_tabu hN hMl (fun i hi j hj => (hA i hi j hj).1)
  have hWv : Wds v := by
    intro b hb
    obtain ⟨k, hk, rfl⟩ := List.mem_iff_getElem.1 hb
    rw [← getD_of_lt hk]
    exact (hXv k (by omega)).1
  have zz := List.length_replicate (n := C) (a := 0)
  refine (gvmult_ok2 TWOW 0 g cy C (List.replicate C 0) 0 C 1 gm N N M 0 R R gx 0 cx R v 0 1 W hO zz (by omega) (by omega) (by omega) (fun e => (h1 e.symm).elim) hM hMl (by omega) hR1 (Nat.le_refl _) hmr hWm hX.row hv (by omega) (by omega) (by omega) hWv (by unfold I64; omega) (by unfold I64; omega) (by unfold I64; omega) (by unfold I64; omega) (by omega) (by omega) (fun e => (h1 e.symm).elim) (fun e => h2 e.symm)
    (fun W2 hb => gu_fits g gm gx cy cx _ M v R C C R N R W2 (hO.nxt hb) (hM.nxt hb) (hX.nxt hb) h1 h2 zz hMl hv (by omega) hC8 hR8 hR8 hC8 hR1 hR8 (Nat.le_refl _) hmr)).mono ?_
  rintro e w' ⟨rfl, m, k1, k2, k3, k4⟩
  rw [wrt_whole _ m C zz k1] at k3
  refine ⟨rfl, m, k1, fun q hq => ?_, k3, k4⟩
  exact turnQ_ex (Ma := M) (A := A) hq hR8 (fun i hi j hj => by rw [show 0 + i + j * R = i + j * R by omega]; exact hA i hi j hj) hXv bP (k2 q hq)
/-- The product of the matrix whose rows are the columns. -/
theorem gu_mul (g gm gx cy cx : Nat) (M v : List Nat) (R C N : Nat) (A : Nat → Nat → Int) (X : Nat → Int) (W : World) (hO : Own W g (List.replicate C 0)) (hM : Own W gm M) (hX : Own W gx v) (h1 : g ≠ gm) (h2 : g ≠ gx) (hN : R * C = N) (hR1 : 1 ≤ R) (hR8 : R ≤ 8) (hC1 : 1 ≤ C) (hC8 : C ≤ 8) (hMl : M.length = N) (hv : v.length = R)
    (hA : ∀ i, i < R → ∀ j, j < C → EX (M.getD (j + i * C) 0) (A i j)) (hXv : ∀ i, i < R → EX (v.getD i 0) (X i)) (bP : ∀ i j, (A i j * X i).natAbs ≤ 16384) (bX : ∀ i, (X i).natAbs ≤ 128) :
    Calls Try.prog 11 #[.float .f64 TWOW, mat (some ⟨gm, 0, none⟩) N N (0 : Nat) C R C, vec (some ⟨gx, 0, none⟩) R cx (0 : Nat) R (1 : Nat), .float .f64 0, vec (some ⟨g, 0, none⟩) C cy (0 : Nat) C (1 : Nat)] W fun e w' => e = .returned (.int .i64 0) ∧
      ∃ m : List Nat, m.length = C ∧ (∀ q, q < C → EX (m.getD q 0) (2 * dotZ (fun i => A i q) X R)) ∧ Own w' g m ∧ Chg [g] W w' := by
  have hNb : N ≤ 64 := by rw [← hN]; exact Nat.mul_le_mul hR8 hC8
  have hmr : C = 0 ∨ R = 0 ∨ 0 + (R - 1) * C + (C - 1) < N := by
    right; right
    have := tab_lt (r := R) (k := C) (i := R - 1) (j := C - 1) (by omega) (by omega)
    rw [hN] at this
    omega
  have hWm : Wds M := wds_tabu (R := C) (C := R) (by rw [Nat.mul_comm]; exact hN) hMl (fun j hj i hi => (hA i hi j hj).1)
  have hWv : Wds v := by
    intro b hb
    obtain ⟨k, hk, rfl⟩ := List.mem_iff_getElem.1 hb
    rw [← getD_of_lt hk]
    exact (hXv k (by omega)).1
  have zz := List.length_replicate (n := C) (a := 0)
  refine (gvmul_ok2 TWOW 0 g cy C (List.replicate C 0) 0 C 1 gm N N M 0 R C gx 0 cx R v 0 1 W hO zz (by omega) (by omega) (by omega) hM hMl (by omega) hC1 (Nat.le_refl _) hmr hWm hX.row hv (by omega) (by omega) (by omega) hWv (by unfold I64; omega) (by unfold I64; omega) (by unfold I64; omega) (by unfold I64; omega) (by omega) (by omega) (fun e => (h1 e.symm).elim) (fun e => h2 e.symm)
    (fun W2 hb => gu_fits g gm gx cy cx _ M v C R C R N C W2 (hO.nxt hb) (hM.nxt hb) (hX.nxt hb) h1 h2 zz hMl hv (by omega) hC8 hR8 hC8 hR8 hC1 hC8 (Nat.le_refl _) hmr)).mono ?_
  rintro e w' ⟨rfl, m, k1, k2, k3, k4⟩
  rw [wrt_whole _ m C zz k1] at k3
  refine ⟨rfl, m, k1, fun q hq => ?_, k3, k4⟩
  exact mulQ_ex (Mb := M) (A := A) hq hR8 (fun i hi j hj => by rw [show 0 + j + i * C = j + i * C by omega]; exact hA i hi j hj) hXv bP bX (k2 q hq)
end Go.Proofs.Ytlhdcajamempoaa
