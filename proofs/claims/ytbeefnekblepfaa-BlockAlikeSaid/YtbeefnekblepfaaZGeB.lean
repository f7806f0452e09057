/-
Gemm: Mul, column by column. Conditions: as each says.
-/
import Derived.Test.YtbeefnekblepfaaZGeA
set_option linter.unusedVariables false
set_option linter.unusedSimpArgs false
set_option linter.unnecessarySimpa false
namespace Go.Proofs.Ytbeefnekblepfaa
open Go.RowKit
attribute [local go_sem ↓] Go.wp_at_zero Go.wp_at_succ

theorem Pcl.col {l l' m : List Nat} {o R C L : Nat} {P : Nat → Nat → Nat → Prop} {j : Nat} (h : Pcl l o R C L P j 0 l') (hRL : R ≤ L) (hj : j < C) (hlt : R = 0 ∨ o + j * L + (R - 1) * 1 < l'.length) (hm : ∀ q, q < R → P q j (m.getD q 0)) : Pcl l o R C L P (j + 1) 0 (wrt l' (o + j * L) 1 m R) := by
  refine ⟨by rw [wrt_length]; exact h.1, fun a ha b hb => ?_, fun x hx => ?_⟩
  · by_cases e : b = j
    · subst e
      rw [if_pos (by omega), show o + a + b * L = o + b * L + a * 1 by omega, wrt_at _ _ 1 _ R (Nat.le_refl _) hlt ha]
      exact hm a ha
    · rw [wrt_else _ _ _ _ _ (fun q hq e2 => e (by
        have := spots_inj (L := L) (a := a) (b := b) (a' := q) (b' := j) (by omega) (by omega) (by omega)
        exact this.2))]
      have := h.2.1 a ha b hb
      by_cases e1 : b < j ∨ (b = j ∧ a < 0)
      · rw [if_pos e1] at this; rw [if_pos (by omega)]; exact this
      · rw [if_neg e1] at this; rw [if_neg (by omega)]; exact this
  · rw [wrt_else _ _ _ _ _ (fun q hq e => hx q hq j hj (by omega)), h.2.2 x hx]
/-- A column has been made. -/
def GeDone (P : Nat → Nat → Prop) (g : Nat) (lj : List Nat) (oj R : Nat) (wr W : World) : Prop := ∃ m : List Nat, (∀ q, q < R → P q (m.getD q 0)) ∧ Own W g (wrt lj oj 1 m R) ∧ Chg [g] wr W
theorem ge_jL {o C L R n j : Nat} (hmr : R = 0 ∨ C = 0 ∨ o + (C - 1) * L + (R - 1) < n) (hR0 : R ≠ 0) (hj : j < C) : o + j * L + (R - 1) * 1 < n := by
  have h1 : j * L ≤ (C - 1) * L := Nat.mul_le_mul_right _ (by omega)
  omega
theorem ge_off {o R L j : Nat} (hR0 : R ≠ 0) : ncolOff (o : Int) (R : Int) (L : Int) (j : Int) = ((o + j * L : Nat) : Int) := by
  unfold ncolOff
  rw [if_neg (by omega)]
  simp

set_option maxRecDepth 100000 in
set_option maxHeartbeats 2000000 in
theorem gemul_ok (a b : Nat) (Ax : Option Addr) (nx cx om Lm : Nat) (Ay : Option Addr) (ny cy oy Ly : Nat) (g c n : Nat) (l : List Nat) (o L R K C : Nat) (P : Nat → Nat → Nat → Prop) (w : World)
    (hO : Own w g l) (hl : l.length = n) (hn : n < 1048576) (hRL : R ≤ L) (hL1 : 1 ≤ L) (hmr : R = 0 ∨ C = 0 ∨ o + (C - 1) * L + (R - 1) < n) (hR0 : R ≠ 0) (hRb : R < 1048576) (hCb : C < 1048576) (hKb : K < 1048576) (hoI : I64 o) (hLI : I64 L)
    (hny : ny < 9223372036854775808) (hoy : I64 oy) (hLy : I64 Ly) (hyr : matB ny oy K C Ly = true)
    (hF : ∀ W, Below w.heap.size w W → Calls Try.prog 43 #[mat Ax nx cx om R K Lm, mat Ay ny cy oy K C Ly, mat (some ⟨g, 0, none⟩) n c o R C L] W fun e w' => e = .returned (.int .i64 0) ∧ Below W.heap.size W w')
    (hC : ∀ W j lj, j < C → Pcl l o R C L P j 0 lj → Own W g lj → Chg [g] w W → Calls Try.prog 44 #[.float .f64 a, mat Ax nx cx om R K Lm, vec Ay ny cy (ncolOff oy K Ly j) K 1, .float .f64 b, vec (some ⟨g, 0, none⟩) n c (o + j * L : Nat) R 1] W fun e w' => e = .returned (.int .i64 0) ∧ GeDone (fun x r => P x j r) g lj (o + j * L) R W w') :
    Calls Try.prog 33 #[.float .f64 a, mat Ax nx cx om R K Lm, mat Ay ny cy oy K C Ly, .float .f64 b, mat (some ⟨g, 0, none⟩) n c o R C L] w fun e w' => e = .returned (.int .i64 0) ∧ ∃ l', Own w' g l' ∧ Imr l o R C L P l' ∧ Chg [g] w w' := by
  have hzr := mat_right hL1 hRL hmr
  have HCy0 := Lib.hid (fun j (hj : j < C) W => ncol_some Ay ny cy oy K C Ly j W hny hoy (by unfold I64; omega) (by unfold I64; omega) hLy (by unfold I64; omega) hyr (by omega))
  have HCz0 := Lib.hid (fun j (hj : j < C) W => ncol_some (some ⟨g, 0, none⟩) n c o R C L j W (by omega) hoI (by unfold I64; omega) (by unfold I64; omega) hLI (by unfold I64; omega) hzr (by omega))
  have HJ := Lib.hid (fun j (hj : j < C) => ge_jL hmr hR0 hj)
  have hO0 := hO
  have HOf := Lib.hid (fun j => ge_off (o := o) (L := L) (j := j) hR0)
  have HF := Lib.hid hF
  have HCa := Lib.hid hC
  have HO := Lib.hid hO
  have Hl := Lib.hid hl
  have HRL := Lib.hid hRL
  have t0 : ((R : Int) == 0) = false := by simp; omega
  clear hO0 hO hl hn hRL hL1 hmr hoI hLI hny hoy hLy hyr hF hC hzr hR0
  unfold mat vec at *
  go_enter Try.func33, Try.ntmps33
  have Hx0 := Lib.hid (((Blk.new w 26 #[.slice Ax nx cx, .int .i64 (om : Int), .int .i64 (R : Int), .int .i64 (K : Int), .int .i64 (Lm : Int)]).alloc (.cells #[.slice Ay ny cy, .int .i64 (oy : Int), .int .i64 (K : Int), .int .i64 (C : Int), .int .i64 (Ly : Int)] 26)).alloc (.cells #[.slice (some ⟨g, 0, none⟩) n c, .int .i64 (o : Int), .int .i64 (R : Int), .int .i64 (C : Int), .int .i64 (L : Int)] 26))
  have Hy0 := Lib.hid ((Blk.new_ (w.alloc (.cells #[.slice Ax nx cx, .int .i64 (om : Int), .int .i64 (R : Int), .int .i64 (K : Int), .int .i64 (Lm : Int)] 26)) 26 #[.slice Ay ny cy, .int .i64 (oy : Int), .int .i64 (K : Int), .int .i64 (C : Int), .int .i64 (Ly : Int)] (w.heap.size + 1) (by simp)).alloc (.cells #[.slice (some ⟨g, 0, none⟩) n c, .int .i64 (o : Int), .int .i64 (R : Int), .int .i64 (C : Int), .int .i64 (L : Int)] 26))
  have Hz0 := Lib.hid (Blk.new_ ((w.alloc (.cells #[.slice Ax nx cx, .int .i64 (om : Int), .int .i64 (R : Int), .int .i64 (K : Int), .int .i64 (Lm : Int)] 26)).alloc (.cells #[.slice Ay ny cy, .int .i64 (oy : Int), .int .i64 (K : Int), .int .i64 (C : Int), .int .i64 (Ly : Int)] 26)) 26 #[.slice (some ⟨g, 0, none⟩) n c, .int .i64 (o : Int), .int .i64 (R : Int), .int .i64 (C : Int), .int .i64 (L : Int)] (w.heap.size + 1 + 1) (by simp))
  have HB0 := Lib.hid ((((Below.refl w.heap.size w).alloc (Nat.le_refl _) (.cells #[.slice Ax nx cx, .int .i64 (om : Int), .int .i64 (R : Int), .int .i64 (K : Int), .int .i64 (Lm : Int)] 26)).alloc (by simp) (.cells #[.slice Ay ny cy, .int .i64 (oy : Int), .int .i64 (K : Int), .int .i64 (C : Int), .int .i64 (Ly : Int)] 26)).alloc (by simp; omega) (.cells #[.slice (some ⟨g, 0, none⟩) n c, .int .i64 (o : Int), .int .i64 (R : Int), .int .i64 (C : Int), .int .i64 (L : Int)] 26))
  obtain ⟨x0, x1, x2, x3, x4⟩ := cells5 Hx0.out
  obtain ⟨y0, y1, y2, y3, y4⟩ := cells5 Hy0.out
  obtain ⟨z0, z1, z2, z3, z4⟩ := cells5 Hz0.out
  go_wp2_with fail
  refine (HF.out _ HB0.out).mono ?_
  rintro e w1 ⟨rfl, hb⟩
  have Hx1 := Lib.hid (Hx0.out.nxt hb)
  have Hy1 := Lib.hid (Hy0.out.nxt hb)
  have Hz1 := Lib.hid (Hz0.out.nxt hb)
  have HB1 := Lib.hid (below_nx HB0.out hb)
  clear hb
  clear x0 x1 x2 x3 x4 y0 y1 y2 y3 y4 z0 z1 z2 z3 z4
  obtain ⟨x0, x1, x2, x3, x4⟩ := cells5 Hx1.out
  obtain ⟨y0, y1, y2, y3, y4⟩ := cells5 Hy1.out
  obtain ⟨z0, z1, z2, z3, z4⟩ := cells5 Hz1.out
  go_wp2_with fail
  clear x0 x1 x2 x3 x4 y0 y1 y2 y3 y4 z0 z1 z2 z3 z4
  generalize hw : w.heap.size = z0 at *
  generalize hz1 : z0 + 1 = z1 at *
  generalize hz2 : z1 + 1 = z2 at *
  have Hgz := Lib.hid (show g < z0 ∧ z0 < z1 ∧ z1 < z2 from ⟨by rw [← hw]; exact HO.out.lt, by omega, by omega⟩)
  have HO1 := Lib.hid (HO.out.nxt (by rw [hw]; exact HB1.out))
  have HC1 := Lib.hid (Chg.of_below (G := [g]) (show Below w.heap.size w w1 by rw [hw]; exact HB1.out))
  clear hw hz1 hz2
  go_wp2_with fail
  go_loopw [25] (fun a wr => ∃ (q : Nat) (lj : List Nat), q ≤ C ∧ a = .int .i64 q ∧ Hid (Pcl l o R C L P q 0 lj ∧ Own wr g lj ∧ Chg [g] w wr ∧ Blk wr z0 26 #[.slice Ax nx cx, .int .i64 (om : Int), .int .i64 (R : Int), .int .i64 (K : Int), .int .i64 (Lm : Int)] ∧ Blk wr z1 26 #[.slice Ay ny cy, .int .i64 (oy : Int), .int .i64 (K : Int), .int .i64 (C : Int), .int .i64 (Ly : Int)] ∧ Blk wr z2 26 #[.slice (some ⟨g, 0, none⟩) n c, .int .i64 (o : Int), .int .i64 (R : Int), .int .i64 (C : Int), .int .i64 (L : Int)])) (fun a _ => C - (intOf a).toNat)
  case atStart => exact ⟨0, l, Nat.zero_le _, rfl, Lib.hid ⟨Pcl.zero _ _ _ _ _ _, HO1.out, HC1.out, Hx1.out, Hy1.out, Hz1.out⟩⟩
  case round =>
    obtain ⟨q, lj, hqC, rfl, HH⟩ := hrel
    by_cases hlt : q < C
    · have hqc : (q : Int) < (C : Int) := by omega
      have hq1 : q + 1 ≤ 1048576 := by omega
      have HX1 := Lib.hid HH.out.2.2.2.1
      have HY1 := Lib.hid HH.out.2.2.2.2.1
      have HZ1 := Lib.hid HH.out.2.2.2.2.2
      have HCy1 := Lib.hid (fun W => HCy0.out q hlt W)
      have HCz1 := Lib.hid (fun W => HCz0.out q hlt W)
      have HMu1 := Lib.hid (fun W (hb : Below wr.heap.size wr W) => show Calls Try.prog 44 #[.float .f64 a, .agg #[.slice Ax nx cx, .int .i64 (om : Int), .int .i64 (R : Int), .int .i64 (K : Int), .int .i64 (Lm : Int)], .agg #[.slice Ay ny cy, .int .i64 (ncolOff oy K Ly q), .int .i64 (K : Int), .int .i64 1], .float .f64 b, .agg #[.slice (some ⟨g, 0, none⟩) n c, .int .i64 ((o + q * L : Nat) : Int), .int .i64 (R : Int), .int .i64 1]] W fun e w' => e = .returned (.int .i64 0) ∧ GeDone (fun x r => P x q r) g lj (o + q * L) R wr w' from
        (HCa.out W q lj hlt HH.out.1 (HH.out.2.1.nxt hb) (HH.out.2.2.1.nxt hb)).mono fun e w' ⟨e1, m, e2, e3, e4⟩ => ⟨e1, m, e2, e3, (Chg.of_below hb).trans e4⟩)
      have HNx1 := Lib.hid (fun (m : List Nat) (W : World) (hm : ∀ x, x < R → P x q (m.getD x 0)) (ho : Own W g (wrt lj (o + q * L) 1 m R)) (hc : Chg [g] wr W) => show Hid (Pcl l o R C L P (q + 1) 0 (wrt lj (o + q * L) 1 m R) ∧ Own W g (wrt lj (o + q * L) 1 m R) ∧ Chg [g] w W ∧ Blk W z0 26 #[.slice Ax nx cx, .int .i64 (om : Int), .int .i64 (R : Int), .int .i64 (K : Int), .int .i64 (Lm : Int)] ∧ Blk W z1 26 #[.slice Ay ny cy, .int .i64 (oy : Int), .int .i64 (K : Int), .int .i64 (C : Int), .int .i64 (Ly : Int)] ∧ Blk W z2 26 #[.slice (some ⟨g, 0, none⟩) n c, .int .i64 (o : Int), .int .i64 (R : Int), .int .i64 (C : Int), .int .i64 (L : Int)]) from
        Lib.hid ⟨HH.out.1.col HRL.out hlt (.inr (by rw [HH.out.1.1, Hl.out]; exact HJ.out q hlt)) hm, ho, HH.out.2.2.1.trans hc, hc.blk (by have := Hgz.out; simp; omega) HH.out.2.2.2.1, hc.blk (by have := Hgz.out; simp; omega) HH.out.2.2.2.2.1, hc.blk (by have := Hgz.out; simp; omega) HH.out.2.2.2.2.2⟩)
      have hof := HOf.out q
      rw [hof] at HCz1
      obtain ⟨P1, hP1⟩ : ∃ P1, ncolOff (oy : Int) (K : Int) (Ly : Int) (q : Int) = P1 := ⟨_, rfl⟩
      obtain ⟨P2, hP2⟩ : ∃ P2, o + q * L = P2 := ⟨_, rfl⟩
      rw [hP1] at HCy1 HMu1
      rw [hP2] at HCz1 HMu1 HNx1
      have HCy := HCy1
      have HCz := HCz1
      have HMu := HMu1
      have HNx := HNx1
      obtain ⟨c0, c1, c2, c3, c4⟩ := cells5 HX1.out
      obtain ⟨d0, d1, d2, d3, d4⟩ := cells5 HY1.out
      obtain ⟨e0, e1, e2, e3, e4⟩ := cells5 HZ1.out
      clear hof hP1 hP2 HCy1 HCz1 HMu1 HNx1
      go_wp2_with fail
      clear c0 c1 c2 c3 c4 d0 d1 d2 d3 d4 e0 e1 e2 e3 e4
      refine wp_region_inv [28, 29, 30, 31, 32, 33, 34, 35, 36, 37] (fun d s W => (d 0 = true → s 28 = .float .f64 a) ∧ (d 1 = true → s 29 = .agg #[.slice Ax nx cx, .int .i64 (om : Int), .int .i64 (R : Int), .int .i64 (K : Int), .int .i64 (Lm : Int)]) ∧ (d 2 = true → s 30 = .agg #[.slice Ay ny cy, .int .i64 (oy : Int), .int .i64 (K : Int), .int .i64 (C : Int), .int .i64 (Ly : Int)]) ∧ (d 3 = true → s 31 = .int .i64 (q : Int)) ∧ (d 4 = true → s 32 = .agg #[.slice Ay ny cy, .int .i64 P1, .int .i64 (K : Int), .int .i64 1]) ∧ (d 5 = true → s 33 = .float .f64 b) ∧ (d 6 = true → s 34 = .agg #[.slice (some ⟨g, 0, none⟩) n c, .int .i64 (o : Int), .int .i64 (R : Int), .int .i64 (C : Int), .int .i64 (L : Int)]) ∧ (d 7 = true → s 35 = .int .i64 (q : Int)) ∧ (d 8 = true → s 36 = .agg #[.slice (some ⟨g, 0, none⟩) n c, .int .i64 (P2 : Int), .int .i64 (R : Int), .int .i64 1]) ∧ (d 9 = true → s 37 = .int .i64 0) ∧ (d 4 = true → d 2 = true ∧ d 3 = true) ∧ (d 8 = true → d 6 = true ∧ d 7 = true) ∧ (d 9 = true → d 0 = true ∧ d 1 = true ∧ d 2 = true ∧ d 3 = true ∧ d 4 = true ∧ d 5 = true ∧ d 6 = true ∧ d 7 = true ∧ d 8 = true) ∧ ((d 9 = false → Below wr.heap.size wr W) ∧ (d 9 = true → GeDone (fun x r => P x q r) g lj P2 R wr W)))
        rfl (by kernel_rfl) ?_ ?_ ?_
      · exact ⟨by simp, by simp, by simp, by simp, by simp, by simp, by simp, by simp, by simp, by simp, by simp, by simp, by simp, ⟨fun _ => (Below.refl _ _).drew, fun h => by simp at h⟩⟩
      · refine ⟨?_, ?_, ?_, ?_, ?_, ?_, ?_, ?_, ?_, ?_, trivial⟩
        all_goals
          intro d s W hJ hfr hd hdep
          simp only [List.mem_cons, forall_eq_or_imp, List.not_mem_nil, false_implies, implies_true, and_true, Region.binds] at hdep
          have f0 := hfr 0 (by decide)
          have f3 := hfr 3 (by decide)
          have f6 := hfr 6 (by decide)
          have f7 := hfr 7 (by decide)
          have f9 := hfr 9 (by decide)
          have f12 := hfr 12 (by decide)
          simp at f0 f3 f6 f7 f9 f12 hdep
          obtain ⟨h0, h1, h2, h3, h4, h5, h6, h7, h8, h9, x0, x1, x2, hT⟩ := hJ
        · have hl : d 9 = false := by
            cases h : d 9
            · rfl
            · have := x2 h; simp [hd] at this
          replace hT := hT.1 hl
          unfold OpSteps
          simp [go_sem, evS, f0]
          exact ⟨fun _ => by simp [sput], fun h => by simpa [sput] using h1 (by simpa [did] using h), fun h => by simpa [sput] using h2 (by simpa [did] using h), fun h => by simpa [sput] using h3 (by simpa [did] using h), fun h => by simpa [sput] using h4 (by simpa [did] using h), fun h => by simpa [sput] using h5 (by simpa [did] using h), fun h => by simpa [sput] using h6 (by simpa [did] using h), fun h => by simpa [sput] using h7 (by simpa [did] using h), fun h => by simpa [sput] using h8 (by simpa [did] using h), fun h => by simpa [sput] using h9 (by simpa [did] using h), fun h => by have := x0 (by simpa [did] using h); simp [did, this], fun h => by have := x1 (by simpa [did] using h); simp [did, this], fun h => by have := x2 (by simpa [did] using h); simp [did, this], ⟨fun _ => hT, fun h => by simp [did, hl] at h⟩⟩
        · have hl : d 9 = false := by
            cases h : d 9
            · rfl
            · have := x2 h; simp [hd] at this
          replace hT := hT.1 hl
          unfold OpSteps
          obtain ⟨p0, p1, p2, p3, p4⟩ := cells5 (HX1.out.below hT HX1.out.lt)
          simp [go_sem, evS, f6, p0, p1, p2, p3, p4]
          exact ⟨fun h => by simpa [sput] using h0 (by simpa [did] using h), fun _ => by simp [sput], fun h => by simpa [sput] using h2 (by simpa [did] using h), fun h => by simpa [sput] using h3 (by simpa [did] using h), fun h => by simpa [sput] using h4 (by simpa [did] using h), fun h => by simpa [sput] using h5 (by simpa [did] using h), fun h => by simpa [sput] using h6 (by simpa [did] using h), fun h => by simpa [sput] using h7 (by simpa [did] using h), fun h => by simpa [sput] using h8 (by simpa [did] using h), fun h => by simpa [sput] using h9 (by simpa [did] using h), fun h => by have := x0 (by simpa [did] using h); simp [did, this], fun h => by have := x1 (by simpa [did] using h); simp [did, this], fun h => by have := x2 (by simpa [did] using h); simp [did, this], ⟨fun _ => hT, fun h => by simp [did, hl] at h⟩⟩
        · have hl : d 9 = false := by
            cases h : d 9
            · rfl
            · have := x2 h; simp [hd] at this
          replace hT := hT.1 hl
          unfold OpSteps
          obtain ⟨p0, p1, p2, p3, p4⟩ := cells5 (HY1.out.below hT HY1.out.lt)
          simp [go_sem, evS, f7, p0, p1, p2, p3, p4]
          exact ⟨fun h => by simpa [sput] using h0 (by simpa [did] using h), fun h => by simpa [sput] using h1 (by simpa [did] using h), fun _ => by simp [sput], fun h => by simpa [sput] using h3 (by simpa [did] using h), fun h => by simpa [sput] using h4 (by simpa [did] using h), fun h => by simpa [sput] using h5 (by simpa [did] using h), fun h => by simpa [sput] using h6 (by simpa [did] using h), fun h => by simpa [sput] using h7 (by simpa [did] using h), fun h => by simpa [sput] using h8 (by simpa [did] using h), fun h => by simpa [sput] using h9 (by simpa [did] using h), fun h => by have := x0 (by simpa [did] using h); simp [did, this], fun h => by have := x1 (by simpa [did] using h); simp [did, this], fun h => by have := x2 (by simpa [did] using h); simp [did, this], ⟨fun _ => hT, fun h => by simp [did, hl] at h⟩⟩
        · have hl : d 9 = false := by
            cases h : d 9
            · rfl
            · have := x2 h; simp [hd] at this
          replace hT := hT.1 hl
          unfold OpSteps
          simp [go_sem, evS, f12]
          exact ⟨fun h => by simpa [sput] using h0 (by simpa [did] using h), fun h => by simpa [sput] using h1 (by simpa [did] using h), fun h => by simpa [sput] using h2 (by simpa [did] using h), fun _ => by simp [sput], fun h => by simpa [sput] using h4 (by simpa [did] using h), fun h => by simpa [sput] using h5 (by simpa [did] using h), fun h => by simpa [sput] using h6 (by simpa [did] using h), fun h => by simpa [sput] using h7 (by simpa [did] using h), fun h => by simpa [sput] using h8 (by simpa [did] using h), fun h => by simpa [sput] using h9 (by simpa [did] using h), fun h => by have := x0 (by simpa [did] using h); simp [did, this], fun h => by have := x1 (by simpa [did] using h); simp [did, this], fun h => by have := x2 (by simpa [did] using h); simp [did, this], ⟨fun _ => hT, fun h => by simp [did, hl] at h⟩⟩
        · have hl : d 9 = false := by
            cases h : d 9
            · rfl
            · have := x2 h; simp [hd] at this
          replace hT := hT.1 hl
          have g2 := h2 (by simp [hdep])
          have g3 := h3 (by simp [hdep])
          unfold OpSteps
          simp [go_sem, evS, g2, g3]
          refine (HCy.out W).mono ?_
          rintro e W' ⟨rfl, hb⟩
          refine ⟨_, rfl, ?_⟩
          exact ⟨fun h => by simpa [sput] using h0 (by simpa [did] using h), fun h => by simpa [sput] using h1 (by simpa [did] using h), fun h => by simpa [sput] using h2 (by simpa [did] using h), fun h => by simpa [sput] using h3 (by simpa [did] using h), fun _ => by simp [sput], fun h => by simpa [sput] using h5 (by simpa [did] using h), fun h => by simpa [sput] using h6 (by simpa [did] using h), fun h => by simpa [sput] using h7 (by simpa [did] using h), fun h => by simpa [sput] using h8 (by simpa [did] using h), fun h => by simpa [sput] using h9 (by simpa [did] using h), fun _ => by simp [did, hdep], fun h => by have := x1 (by simpa [did] using h); simp [did, this], fun h => by have := x2 (by simpa [did] using h); simp [did, this], ⟨fun _ => below_nx hT hb, fun h => by simp [did, hl] at h⟩⟩
        · have hl : d 9 = false := by
            cases h : d 9
            · rfl
            · have := x2 h; simp [hd] at this
          replace hT := hT.1 hl
          unfold OpSteps
          simp [go_sem, evS, f3]
          exact ⟨fun h => by simpa [sput] using h0 (by simpa [did] using h), fun h => by simpa [sput] using h1 (by simpa [did] using h), fun h => by simpa [sput] using h2 (by simpa [did] using h), fun h => by simpa [sput] using h3 (by simpa [did] using h), fun h => by simpa [sput] using h4 (by simpa [did] using h), fun _ => by simp [sput], fun h => by simpa [sput] using h6 (by simpa [did] using h), fun h => by simpa [sput] using h7 (by simpa [did] using h), fun h => by simpa [sput] using h8 (by simpa [did] using h), fun h => by simpa [sput] using h9 (by simpa [did] using h), fun h => by have := x0 (by simpa [did] using h); simp [did, this], fun h => by have := x1 (by simpa [did] using h); simp [did, this], fun h => by have := x2 (by simpa [did] using h); simp [did, this], ⟨fun _ => hT, fun h => by simp [did, hl] at h⟩⟩
        · have hl : d 9 = false := by
            cases h : d 9
            · rfl
            · have := x2 h; simp [hd] at this
          replace hT := hT.1 hl
          unfold OpSteps
          obtain ⟨p0, p1, p2, p3, p4⟩ := cells5 (HZ1.out.below hT HZ1.out.lt)
          simp [go_sem, evS, f9, p0, p1, p2, p3, p4]
          exact ⟨fun h => by simpa [sput] using h0 (by simpa [did] using h), fun h => by simpa [sput] using h1 (by simpa [did] using h), fun h => by simpa [sput] using h2 (by simpa [did] using h), fun h => by simpa [sput] using h3 (by simpa [did] using h), fun h => by simpa [sput] using h4 (by simpa [did] using h), fun h => by simpa [sput] using h5 (by simpa [did] using h), fun _ => by simp [sput], fun h => by simpa [sput] using h7 (by simpa [did] using h), fun h => by simpa [sput] using h8 (by simpa [did] using h), fun h => by simpa [sput] using h9 (by simpa [did] using h), fun h => by have := x0 (by simpa [did] using h); simp [did, this], fun h => by have := x1 (by simpa [did] using h); simp [did, this], fun h => by have := x2 (by simpa [did] using h); simp [did, this], ⟨fun _ => hT, fun h => by simp [did, hl] at h⟩⟩
        · have hl : d 9 = false := by
            cases h : d 9
            · rfl
            · have := x2 h; simp [hd] at this
          replace hT := hT.1 hl
          unfold OpSteps
          simp [go_sem, evS, f12]
          exact ⟨fun h => by simpa [sput] using h0 (by simpa [did] using h), fun h => by simpa [sput] using h1 (by simpa [did] using h), fun h => by simpa [sput] using h2 (by simpa [did] using h), fun h => by simpa [sput] using h3 (by simpa [did] using h), fun h => by simpa [sput] using h4 (by simpa [did] using h), fun h => by simpa [sput] using h5 (by simpa [did] using h), fun h => by simpa [sput] using h6 (by simpa [did] using h), fun _ => by simp [sput], fun h => by simpa [sput] using h8 (by simpa [did] using h), fun h => by simpa [sput] using h9 (by simpa [did] using h), fun h => by have := x0 (by simpa [did] using h); simp [did, this], fun h => by have := x1 (by simpa [did] using h); simp [did, this], fun h => by have := x2 (by simpa [did] using h); simp [did, this], ⟨fun _ => hT, fun h => by simp [did, hl] at h⟩⟩
        · have hl : d 9 = false := by
            cases h : d 9
            · rfl
            · have := x2 h; simp [hd] at this
          replace hT := hT.1 hl
          have g6 := h6 (by simp [hdep])
          have g7 := h7 (by simp [hdep])
          unfold OpSteps
          simp [go_sem, evS, g6, g7]
          refine (HCz.out W).mono ?_
          rintro e W' ⟨rfl, hb⟩
          refine ⟨_, rfl, ?_⟩
          exact ⟨fun h => by simpa [sput] using h0 (by simpa [did] using h), fun h => by simpa [sput] using h1 (by simpa [did] using h), fun h => by simpa [sput] using h2 (by simpa [did] using h), fun h => by simpa [sput] using h3 (by simpa [did] using h), fun h => by simpa [sput] using h4 (by simpa [did] using h), fun h => by simpa [sput] using h5 (by simpa [did] using h), fun h => by simpa [sput] using h6 (by simpa [did] using h), fun h => by simpa [sput] using h7 (by simpa [did] using h), fun _ => by simp [sput], fun h => by simpa [sput] using h9 (by simpa [did] using h), fun h => by have := x0 (by simpa [did] using h); simp [did, this], fun _ => by simp [did, hdep], fun h => by have := x2 (by simpa [did] using h); simp [did, this], ⟨fun _ => below_nx hT hb, fun h => by simp [did, hl] at h⟩⟩
        · have g0 := h0 (by simp [hdep])
          have g1 := h1 (by simp [hdep])
          have g4 := h4 (by simp [hdep])
          have g5 := h5 (by simp [hdep])
          have g8 := h8 (by simp [hdep])
          unfold OpSteps
          have hT0 := hT.1 hd
          simp [go_sem, evS, g0, g1, g4, g5, g8]
          refine (HMu.out W hT0).mono ?_
          rintro e W' ⟨rfl, hD9⟩
          refine ⟨_, rfl, ?_⟩
          exact ⟨fun h => by simpa [sput] using h0 (by simpa [did] using h), fun h => by simpa [sput] using h1 (by simpa [did] using h), fun h => by simpa [sput] using h2 (by simpa [did] using h), fun h => by simpa [sput] using h3 (by simpa [did] using h), fun h => by simpa [sput] using h4 (by simpa [did] using h), fun h => by simpa [sput] using h5 (by simpa [did] using h), fun h => by simpa [sput] using h6 (by simpa [did] using h), fun h => by simpa [sput] using h7 (by simpa [did] using h), fun h => by simpa [sput] using h8 (by simpa [did] using h), fun _ => by simp [sput], fun h => by have := x0 (by simpa [did] using h); simp [did, this], fun h => by have := x1 (by simpa [did] using h); simp [did, this], fun _ => by have y4 := x0 (by simp [hdep]); have y8 := x1 (by simp [hdep]); simp [did, hdep, y4, y8], ⟨fun h => by simp [did] at h, fun _ => hD9⟩⟩
      intro d s W hJ hd
      obtain ⟨h0, h1, h2, h3, h4, h5, h6, h7, h8, h9, x0, x1, x2, hT⟩ := hJ
      obtain ⟨m9, hm9, ho9, hc9⟩ := hT.2 (hd 9 (by decide))
      have HM9 := Lib.hid hm9
      have HO9 := Lib.hid ho9
      have HC9 := Lib.hid hc9
      clear h0 h1 h2 h3 h4 h5 h6 h7 h8 h9 x0 x1 x2 hT hd hm9 ho9 hc9
      simp [setAll]
      generalize s 28 = s28
      generalize s 29 = s29
      generalize s 30 = s30
      generalize s 31 = s31
      generalize s 32 = s32
      generalize s 33 = s33
      generalize s 34 = s34
      generalize s 35 = s35
      generalize s 36 = s36
      generalize s 37 = s37
      generalize W = w9 at *
      go_wp2_with fail
      go_roundw
      case rel => exact ⟨q + 1, wrt lj P2 1 m9 R, by omega, by go_num, HNx.out m9 w9 HM9.out HO9.out HC9.out⟩
      case measure => simp [intOf]; omega
    · obtain rfl : q = C := by omega
      have hqc : ¬ (q : Int) < (q : Int) := by omega
      go_wp2_with fail
      go_ret
      exact ⟨rfl, lj, HH.out.2.1, HH.out.1.done, HH.out.2.2.1⟩
end Go.Proofs.Ytbeefnekblepfaa
