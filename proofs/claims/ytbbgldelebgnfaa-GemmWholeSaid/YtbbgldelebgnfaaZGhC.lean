/-
GemmWhole: small matrices, their products, turned about. Conditions: as each says.
-/
import Derived.Test.YtbbgldelebgnfaaZGhB
import Derived.Test.YtbbgldelebgnfaaZGfE
set_option linter.unusedVariables false
set_option linter.unusedSimpArgs false
set_option linter.unnecessarySimpa false
namespace Go.Proofs.Ytbbgldelebgnfaa
open Go.RowKit
attribute [local go_sem ↓] Go.wp_at_zero Go.wp_at_succ

/-- A matrix of small whole numbers, in a list of its own. -/
structure SmX (W : World) (g : Nat) (M : List Nat) (R C N : Nat) (Z : Nat → Nat → Int) (b : Nat) : Prop where
  own : Own W g M
  len : M.length = N
  wds : Wds M
  sz : R * C = N
  ex : ∀ i, i < R → ∀ j, j < C → EX (M.getD (0 + i + j * R) 0) (Z i j)
  le : ∀ i j, (Z i j).natAbs ≤ b
theorem SmX.nxt {W W' : World} {g : Nat} {M : List Nat} {R C N : Nat} {Z : Nat → Nat → Int} {b : Nat} (h : SmX W g M R C N Z b) (hb : Below W.heap.size W W') : SmX W' g M R C N Z b := ⟨h.own.nxt hb, h.len, h.wds, h.sz, h.ex, h.le⟩
theorem SmX.own_ {W W' : World} {g : Nat} {M : List Nat} {R C N : Nat} {Z : Nat → Nat → Int} {b : Nat} (h : SmX W g M R C N Z b) (ho : Own W' g M) : SmX W' g M R C N Z b := ⟨ho, h.len, h.wds, h.sz, h.ex, h.le⟩
/-- A value that is one. -/
def XM (W : World) (v : Value) (z R C N : Nat) (Z : Nat → Nat → Int) (b : Nat) : Prop := ∃ g M, v = .agg #[.slice (some ⟨g, 0, none⟩) N N, .int .i64 0, .int .i64 (R : Int), .int .i64 (C : Int), .int .i64 (R : Int)] ∧ SmX W g M R C N Z b ∧ z ≤ g
theorem XM.below {W W' : World} {v : Value} {z R C N : Nat} {Z : Nat → Nat → Int} {b : Nat} (h : XM W v z R C N Z b) (hb : Below W.heap.size W W') : XM W' v z R C N Z b := by
  obtain ⟨g, M, h1, h2, h3⟩ := h; exact ⟨g, M, h1, h2.nxt hb, h3⟩
/-- A product of two, and no error. -/
def TpX (W : World) (t : Value) (z R C N : Nat) (Z : Nat → Nat → Int) (b : Nat) : Prop := ∃ v, t = .tuple #[v, .int .i64 0] ∧ XM W v z R C N Z b
theorem TpX.below {W W' : World} {v : Value} {z R C N : Nat} {Z : Nat → Nat → Int} {b : Nat} (h : TpX W v z R C N Z b) (hb : Below W.heap.size W W') : TpX W' v z R C N Z b := by
  obtain ⟨v, h1, h2⟩ := h; exact ⟨v, h1, h2.below hb⟩
theorem small_le {R C N : Nat} (hN : R * C = N) (hR : R ≤ 6) (hC : C ≤ 6) : N ≤ 36 := by
  have h1 : R * C ≤ 6 * 6 := Nat.mul_le_mul hR hC
  omega
/-- The cells of two matrices, one behind the other. -/
def two5 (gx NX gy NY R K C : Nat) : Array Value := #[.slice (some ⟨gx, 0, none⟩) NX NX, .int .i64 0, .int .i64 (R : Int), .int .i64 (K : Int), .int .i64 (R : Int), .slice (some ⟨gy, 0, none⟩) NY NY, .int .i64 0, .int .i64 (K : Int), .int .i64 (C : Int), .int .i64 (K : Int)]
theorem geprod2_any (gx gy : Nat) (Mx My : List Nat) (R K C NX NY N : Nat) (X Y : Nat → Nat → Int) (a b bb : Nat) (W : World) (hB : Blk W bb 25 (two5 gx NX gy NY R K C)) (hX : SmX W gx Mx R K NX X a) (hY : SmX W gy My K C NY Y b) (hR : 1 ≤ R ∧ R ≤ 6) (hK : 1 ≤ K ∧ K ≤ 6) (hC : 1 ≤ C ∧ C ≤ 6) (hN : R * C = N) (hab : 7 * (a * b) < 9007199254740992) (hb : b < 9007199254740992) :
    Calls Try.prog 17 #[.slice (some ⟨bb, 0, none⟩) 2 2] W fun e w' => ∃ g M, e = .returned (.tuple #[.agg #[.slice (some ⟨g, 0, none⟩) N N, .int .i64 0, .int .i64 (R : Int), .int .i64 (C : Int), .int .i64 (R : Int)], .int .i64 0]) ∧ SmX w' g M R C N (mulZ X Y K) (K * (a * b)) ∧ W.heap.size ≤ g ∧ Below W.heap.size W w' := by
  have hNX := small_le hX.sz hR.2 hK.2
  have hNY := small_le hY.sz hK.2 hC.2
  obtain ⟨L, hL⟩ : ∃ L : List M5, [⟨some ⟨gx, 0, none⟩, Mx, NX, 0, R, K, R⟩, ⟨some ⟨gy, 0, none⟩, My, NY, 0, K, C, K⟩] = L := ⟨_, rfl⟩
  have m0 : mL L 0 = ⟨some ⟨gx, 0, none⟩, Mx, NX, 0, R, K, R⟩ := by rw [← hL]; rfl
  have m1 : mL L 1 = ⟨some ⟨gy, 0, none⟩, My, NY, 0, K, C, K⟩ := by rw [← hL]; rfl
  have hM : MlC W bb 0 2 L := fun i hi => by
    match i, hi with
    | 0, _ =>
      rw [m0]
      show W.cell? ⟨bb, 0, none⟩ = some (.slice (some ⟨gx, 0, none⟩) Mx.length NX) ∧ W.cell? ⟨bb, 1, none⟩ = _ ∧ W.cell? ⟨bb, 2, none⟩ = _ ∧ W.cell? ⟨bb, 3, none⟩ = _ ∧ W.cell? ⟨bb, 4, none⟩ = _
      rw [hX.len]
      exact ⟨hB.cell 0, hB.cell 1, hB.cell 2, hB.cell 3, hB.cell 4⟩
    | 1, _ =>
      rw [m1]
      show W.cell? ⟨bb, 5, none⟩ = some (.slice (some ⟨gy, 0, none⟩) My.length NY) ∧ W.cell? ⟨bb, 6, none⟩ = _ ∧ W.cell? ⟨bb, 7, none⟩ = _ ∧ W.cell? ⟨bb, 8, none⟩ = _ ∧ W.cell? ⟨bb, 9, none⟩ = _
      rw [hY.len]
      exact ⟨hB.cell 5, hB.cell 6, hB.cell 7, hB.cell 8, hB.cell 9⟩
  have o0 : (mL L 0).Ok W := by
    rw [m0]
    exact ⟨by show Mx.length ≤ NX; rw [hX.len]; exact Nat.le_refl _, by show NX < _; omega, hX.wds, hX.own.row, by show I64 0; unfold I64; omega, by show I64 (R : Int); unfold I64; omega, by show I64 (K : Int); unfold I64; omega, by show I64 (R : Int); unfold I64; omega, fun p q e _ => by
      have e : (some ⟨gx, 0, none⟩ : Option Addr) = some ⟨p, q, none⟩ := e
      injection e with e; injection e with e1 e2
      subst e1 e2
      exact hX.own.frozen 0⟩
  have o1 : (mL L 1).Ok W := by
    rw [m1]
    exact ⟨by show My.length ≤ NY; rw [hY.len]; exact Nat.le_refl _, by show NY < _; omega, hY.wds, hY.own.row, by show I64 0; unfold I64; omega, by show I64 (K : Int); unfold I64; omega, by show I64 (C : Int); unfold I64; omega, by show I64 (K : Int); unfold I64; omega, fun p q e _ => by
      have e : (some ⟨gy, 0, none⟩ : Option Addr) = some ⟨p, q, none⟩ := e
      injection e with e; injection e with e1 e2
      subst e1 e2
      exact hY.own.frozen 0⟩
  have g0 : goodM (mL L 0) = true := by
    rw [m0]
    show matB Mx.length 0 (R : Int) (K : Int) (R : Int) = true
    rw [hX.len]
    exact mat_right (o := 0) hR.1 (Nat.le_refl _) (small_room hX.sz hR.1)
  have g1 : goodM (mL L 1) = true := by
    rw [m1]
    show matB My.length 0 (K : Int) (C : Int) (K : Int) = true
    rw [hY.len]
    exact mat_right (o := 0) hK.1 (Nat.le_refl _) (small_room hY.sz hK.1)
  have r0 : mr L 0 = R ∧ mk L 0 = K ∧ mo L 0 = 0 ∧ ml L 0 = R := by unfold mr mk mo ml; rw [m0]; exact ⟨rfl, rfl, rfl, rfl⟩
  have r1 : mr L 1 = K ∧ mk L 1 = C ∧ mo L 1 = 0 ∧ ml L 1 = K := by unfold mr mk mo ml; rw [m1]; exact ⟨rfl, rfl, rfl, rfl⟩
  have two : ∀ (P : Nat → Prop), P 0 → P 1 → ∀ i, i < 2 → P i := fun P h0 h1 i hi => by
    match i, hi with
    | 0, _ => exact h0
    | 1, _ => exact h1
  refine (geproduct_ok bb 0 2 2 L R R W hM (by rw [← hL]; rfl) (by omega) (by omega) (by omega) (two _ o0 o1) (two _ g0 g1) (two _ ⟨by rw [r0.1]; omega, by rw [r0.2.1]; omega, by rw [m0]; show Mx.length < _; rw [hX.len]; omega⟩ ⟨by rw [r1.1]; omega, by rw [r1.2.1]; omega, by rw [m1]; show My.length < _; rw [hY.len]; omega⟩) (fun i h1 h2 => by
    obtain rfl : i = 1 := by omega
    rw [r1.1]; exact r0.2.1) r0.1 (by omega)).mono ?_
  rintro e w' ⟨g, NN, Mz, k1, k2, k3, k4, k5⟩
  rw [show (2 - 1 : Nat) = 1 from rfl] at k1 k2 k3
  rw [r1.2.1] at k1 k2
  obtain ⟨p1, p2, p3, p4⟩ := k3
  rw [r1.2.1] at p2 p4
  have hNN : NN = N := k2.symm.trans hN
  subst hNN
  refine ⟨g, Mz, k1, ⟨p1, by rw [p2, hN], p3, hN, fun i hi j hj => ?_, fun i j => mulZ_le hX.le hY.le i j⟩, k4, k5⟩
  have h := p4 i hi j hj
  refine EX.is_ ?_ h
  show EX (geF ONEe 0 0 (fun k => eM L 0 i k) (fun k => eM L 1 k j) (mk L 0)) _
  rw [r0.2.1]
  refine geF_ex (B := a * b) (fun k => Nat.lt_of_le_of_lt (hY.le k j) hb) (fun k => by rw [Int.natAbs_mul]; exact Nat.mul_le_mul (hX.le i k) (hY.le k j)) hab K hK.2 (fun k hk => ⟨?_, ?_⟩)
  · unfold eM; rw [m0, r0.2.2.1, r0.2.2.2]; exact hX.ex i hi k hk
  · unfold eM; rw [m1, r1.2.2.1, r1.2.2.2]; exact hY.ex k hk j hj
/-- The document's table of such a matrix, as it is and turned about. -/
def TbZ (R C N : Nat) (Z : Nat → Nat → Int) (T : List Nat) : Prop := T.length = N ∧ Wds T ∧ ∀ i, i < R → ∀ j, j < C → EX (T.getD (i * C + j) 0) (Z i j)
theorem geof_any (g R C N : Nat) (Mx : List Nat) (Z : Nat → Nat → Int) (b : Nat) (W : World) (h : SmX W g Mx R C N Z b) (hR : 1 ≤ R ∧ R ≤ 6) (hC : 1 ≤ C ∧ C ≤ 6) :
    Calls Try.prog 14 #[.agg #[.slice (some ⟨g, 0, none⟩) N N, .int .i64 0, .int .i64 (R : Int), .int .i64 (C : Int), .int .i64 (R : Int)]] W fun e w' => ∃ g T, e = .returned (.agg #[.int .i64 (R : Int), .int .i64 (C : Int), .slice (some ⟨g, 0, none⟩) N N]) ∧ TbZ R C N Z T ∧ Row w' (some ⟨g, 0, none⟩) (f64s T) ∧ Below W.heap.size W w' := by
  have hN := small_le h.sz hR.2 hC.2
  refine (rof_any (some ⟨g, 0, none⟩) N N Mx 0 R C R N W h.own.row h.len (by omega) h.sz (by omega) (by omega) (by omega) (small_room h.sz hR.1)).mono ?_
  rintro e w' ⟨g, T, k1, k2, k3, _, k4⟩
  refine ⟨g, T, k1, ⟨by rw [k2.1, h.sz], tab_wdse k2 h.sz h.wds, fun i hi j hj => ?_⟩, k3, k4⟩
  rw [tab_get k2 h.sz hi hj]
  exact h.ex i hi j hj
theorem gedense_any (g R C N c : Nat) (T : List Nat) (Z : Nat → Nat → Int) (b : Nat) (W : World) (h : TbZ R C N Z T) (hO : Own W g T) (hc : N ≤ c) (hN : R * C = N) (hR : 1 ≤ R ∧ R ≤ 6) (hC : 1 ≤ C ∧ C ≤ 6) (hb : ∀ i j, (Z i j).natAbs ≤ b) :
    Calls Try.prog 20 #[.int .i64 (R : Int), .int .i64 (C : Int), .slice (some ⟨g, 0, none⟩) N c] W fun e w' => ∃ g M, e = .returned (.agg #[.slice (some ⟨g, 0, none⟩) N N, .int .i64 0, .int .i64 (R : Int), .int .i64 (C : Int), .int .i64 (R : Int)]) ∧ SmX w' g M R C N Z b ∧ W.heap.size ≤ g ∧ Below W.heap.size W w' := by
  have hN2 := small_le hN hR.2 hC.2
  have := dense_blk (some ⟨g, 0, none⟩) c T R C W (by omega) (by omega) hO.row (by rw [h.1]; omega) (by rw [h.1]; exact hc)
  rw [h.1, hN, show max 1 R = R by omega] at this
  refine this.mono ?_
  rintro e w' ⟨g', M, rfl, hd, hB, hg, hb2⟩
  refine ⟨g', M, by simp [mat], ⟨own_blk hB, by rw [hd.1, hN], dense_wdse hd h.2.1, hN, fun i hi j hj => ?_, hb⟩, hg, hb2⟩
  have := dense_ate hd hi hj
  rw [show 0 + i + j * R = 0 + j * R + i by omega, this]
  exact h.2.2 i hi j hj
end Go.Proofs.Ytbbgldelebgnfaa
