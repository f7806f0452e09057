/-
Block: add, block by block. Conditions: as each says.
-/
import Derived.Test.YtbeefnekblepfaaZBkC
import Derived.Test.YtbeefnekblepfaaZBkD
import Derived.Test.YtbeefnekblepfaaUaah
import Derived.Test.YtbeefnekblepfaaUaaq
set_option linter.unusedVariables false
set_option linter.unusedSimpArgs false
set_option linter.unnecessarySimpa false
namespace Go.Proofs.Ytbeefnekblepfaa
open Go.RowKit
attribute [local go_sem ↓] Go.wp_at_zero Go.wp_at_succ

theorem kdF_start {C1 : List Int} {m1 N1 : Nat} (h : CutF C1 m1 N1) {c c' K : Nat} (i j : Nat) : kdF c c' (bs C1 0) (bs C1 0) 0 K i j = kdF c c 0 0 0 K i j := by
  rw [h.zero, kdF_row, kdF_same]
  by_cases h1 : j < c
  · simp [h1]
  · simp [h1]
theorem kdF_sums {C3 : List Int} {m3 N3 : Nat} (h : CutF C3 m3 N3) {c c' r r' K : Nat} (i j : Nat) : kdF c c' r r' (bs C3 0) K i j = kdF c c' r r 0 K i j := by
  rw [h.zero]
  unfold kdF
  by_cases h1 : i < r
  · simp [h1]
  · simp [h1]
theorem kdF_rowdone {c c' r r' K : Nat} (hr : r ≤ r') (i j : Nat) : kdF c c' r' r' 0 K i j = kdF c c' r r' K K i j := by
  unfold kdF
  by_cases h1 : i < r'
  · by_cases h2 : i < r
    · simp [h1, h2]
    · simp [h1, h2]
  · have h2 : ¬ i < r := by omega
    simp [h1, h2]
theorem kdF_coldone {c c' R K : Nat} (hc : c ≤ c') (i j : Nat) (hi : i < R) : kdF c' c' 0 0 0 K i j = kdF c c' R R 0 K i j := by
  rw [kdF_same]
  unfold kdF
  by_cases h1 : j < c'
  · by_cases h2 : j < c
    · simp [h1, h2, hi]
    · simp [h1, h2, hi]
  · have h2 : ¬ j < c := by omega
    simp [h1, h2]
theorem bk_three {C1 C2 C3 : List Int} {m1 m2 m3 R C K p q r i0 rn j0 cn k0 kn : Nat} (h1 : CutF C1 m1 R) (h2 : CutF C2 m2 C) (h3 : CutF C3 m3 K) (hp : p < m1) (hq : q < m2) (hr : r < m3) (ei : bs C1 p = i0) (er : bs C1 (p + 1) - bs C1 p = rn) (ej : bs C2 q = j0) (ec : bs C2 (q + 1) - bs C2 q = cn) (ek : bs C3 r = k0) (en : bs C3 (r + 1) - bs C3 r = kn) :
    (1 ≤ rn ∧ i0 + rn ≤ R ∧ bs C1 (p + 1) = i0 + rn) ∧ (1 ≤ cn ∧ j0 + cn ≤ C ∧ bs C2 (q + 1) = j0 + cn) ∧ 1 ≤ kn ∧ k0 + kn ≤ K ∧
    (∀ i, i < rn → ∀ j, j < cn → kdF (bs C2 q) (bs C2 (q + 1)) (bs C1 p) (bs C1 (p + 1)) (bs C3 r) K (i0 + i) (j0 + j) = k0) ∧
    (∀ i, i < rn → ∀ j, j < cn → kdF (bs C2 q) (bs C2 (q + 1)) (bs C1 p) (bs C1 (p + 1)) (bs C3 (r + 1)) K (i0 + i) (j0 + j) = k0 + kn) ∧
    (∀ i, i < R → ∀ j, j < C → ¬ ((i0 ≤ i ∧ i < i0 + rn) ∧ j0 ≤ j ∧ j < j0 + cn) → kdF (bs C2 q) (bs C2 (q + 1)) (bs C1 p) (bs C1 (p + 1)) (bs C3 (r + 1)) K i j = kdF (bs C2 q) (bs C2 (q + 1)) (bs C1 p) (bs C1 (p + 1)) (bs C3 r) K i j) := by
  have l1 := h1.lt p hp
  have l2 := h2.lt q hq
  have l3 := h3.lt r hr
  have e1 := h1.le (p + 1)
  have e2 := h2.le (q + 1)
  have e3 := h3.le (r + 1)
  refine ⟨by omega, by omega, by omega, by omega, fun i hi j hj => ?_, fun i hi j hj => ?_, fun i hi j hj h => ?_⟩
  · unfold kdF
    rw [if_neg (by omega), if_pos (by omega), if_neg (by omega), if_pos (by omega)]
    exact ek
  · unfold kdF
    rw [if_neg (by omega), if_pos (by omega), if_neg (by omega), if_pos (by omega)]
    omega
  · unfold kdF
    by_cases g1 : j < bs C2 q
    · rw [if_pos g1, if_pos g1]
    · rw [if_neg g1, if_neg g1]
      by_cases g2 : j < bs C2 (q + 1)
      · rw [if_pos g2, if_pos g2]
        by_cases g3 : i < bs C1 p
        · rw [if_pos g3, if_pos g3]
        · rw [if_neg g3, if_neg g3]
          have g4 : ¬ i < bs C1 (p + 1) := fun g4 => h ⟨⟨by omega, by omega⟩, by omega, by omega⟩
          rw [if_neg g4, if_neg g4]
      · rw [if_neg g2, if_neg g2]
/-- What the loops hold: the list, how far its numbers are. -/
def BkT (a b g : Nat) (l : List Nat) (o R C L : Nat) (f gg : Nat → Nat → Nat) (w : World) (kd : Nat → Nat → Nat) (W : World) : Prop := ∃ lj, Own W g lj ∧ Imr l o R C L (BkP a b l o L f gg kd) lj ∧ Chg [g] w W
theorem BkT.kd {a b g : Nat} {l : List Nat} {o R C L : Nat} {f gg : Nat → Nat → Nat} {w : World} {kd kd' : Nat → Nat → Nat} {W : World} (h : BkT a b g l o R C L f gg w kd W) (hk : ∀ i, i < R → ∀ j, j < C → kd' i j = kd i j) : BkT a b g l o R C L f gg w kd' W := by
  obtain ⟨lj, h1, h2, h3⟩ := h
  exact ⟨lj, h1, bk_kd h2 hk, h3⟩
theorem BkT.nxt {a b g : Nat} {l : List Nat} {o R C L : Nat} {f gg : Nat → Nat → Nat} {w : World} {kd : Nat → Nat → Nat} {W W' : World} (h : BkT a b g l o R C L f gg w kd W) (hb : Below W.heap.size W W') : BkT a b g l o R C L f gg w kd W' := by
  obtain ⟨lj, h1, h2, h3⟩ := h
  exact ⟨lj, h1.nxt hb, h2, h3.nxt hb⟩
/-- A part has been added to. -/
def BkD (a g : Nat) (f gg : Nat → Nat → Nat) (o L i0 rn j0 cn k0 kn : Nat) (lj : List Nat) (W W' : World) : Prop := ∃ l', Own W' g l' ∧ Imr lj (o + i0 + j0 * L) rn cn L (BkQ a 4607182418800017408 lj (o + i0 + j0 * L) L f gg i0 j0 k0 kn) l' ∧ Chg [g] W W'
/-- What lies about: the product and the three lists of blocks. -/
def BkH (z0 : Nat) (P : Array Value) (A1 A2 A3 : Option Addr) (X1 X2 X3 : List Value) (W : World) : Prop := Blk W z0 48 P ∧ Row W A1 X1 ∧ Row W A2 X2 ∧ Row W A3 X3
theorem BkH.nxt {z0 : Nat} {P : Array Value} {A1 A2 A3 : Option Addr} {X1 X2 X3 : List Value} {W W' : World} (h : BkH z0 P A1 A2 A3 X1 X2 X3 W) (hb : Below W.heap.size W W') : BkH z0 P A1 A2 A3 X1 X2 X3 W' :=
  ⟨h.1.nxt hb, h.2.1.below hb, h.2.2.1.below hb, h.2.2.2.below hb⟩
/-- g lies ahead of all that. -/
def BkN (g z0 : Nat) (A1 A2 A3 : Option Addr) : Prop := g < z0 ∧ (∀ b x, A1 = some ⟨b, x, none⟩ → g < b) ∧ (∀ b x, A2 = some ⟨b, x, none⟩ → g < b) ∧ (∀ b x, A3 = some ⟨b, x, none⟩ → g < b)
theorem BkH.chg {g z0 : Nat} {P : Array Value} {A1 A2 A3 : Option Addr} {X1 X2 X3 : List Value} {W W' : World} (h : BkH z0 P A1 A2 A3 X1 X2 X3 W) (hn : BkN g z0 A1 A2 A3) (hc : Chg [g] W W') : BkH z0 P A1 A2 A3 X1 X2 X3 W' := by
  obtain ⟨n0, n1, n2, n3⟩ := hn
  exact ⟨hc.blk (by simp; omega) h.1, hc.row (fun b x e => by have := n1 b x e; simp; omega) h.2.1, hc.row (fun b x e => by have := n2 b x e; simp; omega) h.2.2.1, hc.row (fun b x e => by have := n3 b x e; simp; omega) h.2.2.2⟩
/-- A list of blocks, as a call returns it. -/
def BkL (lo : Nat) (N : Nat) (v : Value) (W : World) : Prop := ∃ C m A c, v = .slice A m c ∧ CutF C m N ∧ m ≤ N ∧ Row W A (prs C m) ∧ ∀ b x, A = some ⟨b, x, none⟩ → lo ≤ b
theorem BkL.below {lo N : Nat} {v : Value} {W W' : World} (h : BkL lo N v W) (hb : Below W.heap.size W W') : BkL lo N v W' := by
  obtain ⟨C, m, A, c, h1, h2, h3, h4, h5⟩ := h
  exact ⟨C, m, A, c, h1, h2, h3, h4.below hb, h5⟩

set_option maxRecDepth 100000 in
set_option maxHeartbeats 4000000 in
theorem bkadd_any (s1 s2 s3 : Nat) (a b : Nat) (Ax : Option Addr) (nx cx om Lm : Nat) (Ay : Option Addr) (ny cy oy Ly : Nat) (g c n : Nat) (l l0 : List Nat) (o L R K C : Nat) (f gg : Nat → Nat → Nat) (w : World)
    (h1 : 1 ≤ s1 ∧ s1 < 9223372036854775808) (h2 : 1 ≤ s2 ∧ s2 < 9223372036854775808) (h3 : 1 ≤ s3 ∧ s3 < 9223372036854775808) (hRb : R ≤ 4096) (hKb : K ≤ 4096) (hCb : C ≤ 4096) (hRL : R ≤ L)
    (hO : Own w g l0) (hI : Imr l o R C L (BkP a b l o L f gg (fun _ _ => 0)) l0)
    (hPx : ∀ i0 rn k0 kn, 1 ≤ rn → 1 ≤ kn → i0 + rn ≤ R → k0 + kn ≤ K → ∀ W, Calls Try.prog 36 #[mat Ax nx cx om R K Lm, .agg #[.int .i64 (i0 : Int), .int .i64 (rn : Int)], .agg #[.int .i64 (k0 : Int), .int .i64 (kn : Int)]] W fun e w' => e = .returned (mat Ax nx cx (om + i0 + k0 * Lm : Nat) rn kn Lm) ∧ Below W.heap.size W w')
    (hPy : ∀ k0 kn j0 cn, 1 ≤ kn → 1 ≤ cn → k0 + kn ≤ K → j0 + cn ≤ C → ∀ W, Calls Try.prog 36 #[mat Ay ny cy oy K C Ly, .agg #[.int .i64 (k0 : Int), .int .i64 (kn : Int)], .agg #[.int .i64 (j0 : Int), .int .i64 (cn : Int)]] W fun e w' => e = .returned (mat Ay ny cy (oy + k0 + j0 * Ly : Nat) kn cn Ly) ∧ Below W.heap.size W w')
    (hPz : ∀ i0 rn j0 cn, 1 ≤ rn → 1 ≤ cn → i0 + rn ≤ R → j0 + cn ≤ C → ∀ W, Calls Try.prog 36 #[mat (some ⟨g, 0, none⟩) n c o R C L, .agg #[.int .i64 (i0 : Int), .int .i64 (rn : Int)], .agg #[.int .i64 (j0 : Int), .int .i64 (cn : Int)]] W fun e w' => e = .returned (mat (some ⟨g, 0, none⟩) n c (o + i0 + j0 * L : Nat) rn cn L) ∧ Below W.heap.size W w')
    (hMul : ∀ i0 rn j0 cn k0 kn, 1 ≤ rn → 1 ≤ cn → 1 ≤ kn → i0 + rn ≤ R → j0 + cn ≤ C → k0 + kn ≤ K → ∀ W lj, Own W g lj → Chg [g] w W → Imr l o R C L (fun _ _ r => r < 18446744073709551616) lj → Calls Try.prog 33 #[.float .f64 a, mat Ax nx cx (om + i0 + k0 * Lm : Nat) rn kn Lm, mat Ay ny cy (oy + k0 + j0 * Ly : Nat) kn cn Ly, .float .f64 4607182418800017408, mat (some ⟨g, 0, none⟩) n c (o + i0 + j0 * L : Nat) rn cn L] W fun e w' => e = .returned (.int .i64 0) ∧ BkD a g f gg o L i0 rn j0 cn k0 kn lj W w') :
    Calls Try.prog 20 #[.agg #[.int .i64 (s1 : Int), .int .i64 (s2 : Int), .int .i64 (s3 : Int), .float .f64 a, .slice Ax nx cx, .int .i64 (om : Int), .int .i64 (R : Int), .int .i64 (K : Int), .int .i64 (Lm : Int), .slice Ay ny cy, .int .i64 (oy : Int), .int .i64 (K : Int), .int .i64 (C : Int), .int .i64 (Ly : Int), .slice (some ⟨g, 0, none⟩) n c, .int .i64 (o : Int), .int .i64 (R : Int), .int .i64 (C : Int), .int .i64 (L : Int)]] w fun e w' => e = .returned (.tuple #[]) ∧ BkT a b g l o R C L f gg w (fun _ _ => K) w' := by
  have HC1 := Lib.hid (fun W => bkcut_any R s1 W hRb h1.1 h1.2)
  have HC2 := Lib.hid (fun W => bkcut_any C s2 W hCb h2.1 h2.2)
  have HC3 := Lib.hid (fun W => bkcut_any K s3 W hKb h3.1 h3.2)
  unfold BkCut at HC1 HC2 HC3
  have HPx0 := Lib.hid hPx
  have HPy0 := Lib.hid hPy
  have HPz0 := Lib.hid hPz
  have HMu0 := Lib.hid hMul
  have Hb := Lib.hid (And.intro hRb (And.intro hKb (And.intro hCb hRL)))
  have HB0 := Lib.hid ((Below.refl w.heap.size w).alloc (Nat.le_refl _) (.cells #[.int .i64 (s1 : Int), .int .i64 (s2 : Int), .int .i64 (s3 : Int), .float .f64 a, .slice Ax nx cx, .int .i64 (om : Int), .int .i64 (R : Int), .int .i64 (K : Int), .int .i64 (Lm : Int), .slice Ay ny cy, .int .i64 (oy : Int), .int .i64 (K : Int), .int .i64 (C : Int), .int .i64 (Ly : Int), .slice (some ⟨g, 0, none⟩) n c, .int .i64 (o : Int), .int .i64 (R : Int), .int .i64 (C : Int), .int .i64 (L : Int)] 48))
  have HTb := Lib.hid (show BkT a b g l o R C L f gg w (fun _ _ => 0) (w.alloc (.cells #[.int .i64 (s1 : Int), .int .i64 (s2 : Int), .int .i64 (s3 : Int), .float .f64 a, .slice Ax nx cx, .int .i64 (om : Int), .int .i64 (R : Int), .int .i64 (K : Int), .int .i64 (Lm : Int), .slice Ay ny cy, .int .i64 (oy : Int), .int .i64 (K : Int), .int .i64 (C : Int), .int .i64 (Ly : Int), .slice (some ⟨g, 0, none⟩) n c, .int .i64 (o : Int), .int .i64 (R : Int), .int .i64 (C : Int), .int .i64 (L : Int)] 48)) from ⟨l0, hO.nxt HB0.out, hI, Chg.of_below HB0.out⟩)
  have HZ1 := Lib.hid (Blk.new w 48 #[.int .i64 (s1 : Int), .int .i64 (s2 : Int), .int .i64 (s3 : Int), .float .f64 a, .slice Ax nx cx, .int .i64 (om : Int), .int .i64 (R : Int), .int .i64 (K : Int), .int .i64 (Lm : Int), .slice Ay ny cy, .int .i64 (oy : Int), .int .i64 (K : Int), .int .i64 (C : Int), .int .i64 (Ly : Int), .slice (some ⟨g, 0, none⟩) n c, .int .i64 (o : Int), .int .i64 (R : Int), .int .i64 (C : Int), .int .i64 (L : Int)])
  have Hg := Lib.hid (show g < w.heap.size ∧ w.heap.size ≤ (w.alloc (.cells #[.int .i64 (s1 : Int), .int .i64 (s2 : Int), .int .i64 (s3 : Int), .float .f64 a, .slice Ax nx cx, .int .i64 (om : Int), .int .i64 (R : Int), .int .i64 (K : Int), .int .i64 (Lm : Int), .slice Ay ny cy, .int .i64 (oy : Int), .int .i64 (K : Int), .int .i64 (C : Int), .int .i64 (Ly : Int), .slice (some ⟨g, 0, none⟩) n c, .int .i64 (o : Int), .int .i64 (R : Int), .int .i64 (C : Int), .int .i64 (L : Int)] 48)).heap.size from ⟨hO.lt, HB0.out.size⟩)
  clear h1 h2 h3 hRb hKb hCb hRL hO hI hPx hPy hPz hMul HB0
  unfold mat at *
  go_enter Try.func20, Try.ntmps20
  go_wp2_with fail
  generalize hw1 : w.alloc (.cells #[.int .i64 (s1 : Int), .int .i64 (s2 : Int), .int .i64 (s3 : Int), .float .f64 a, .slice Ax nx cx, .int .i64 (om : Int), .int .i64 (R : Int), .int .i64 (K : Int), .int .i64 (Lm : Int), .slice Ay ny cy, .int .i64 (oy : Int), .int .i64 (K : Int), .int .i64 (C : Int), .int .i64 (Ly : Int), .slice (some ⟨g, 0, none⟩) n c, .int .i64 (o : Int), .int .i64 (R : Int), .int .i64 (C : Int), .int .i64 (L : Int)] 48) = w1 at *
  generalize hz0 : w.heap.size = z0 at *
  clear hw1 hz0
  refine wp_region_inv [11, 12, 13, 14, 15, 16, 17, 18, 19, 20, 21, 22, 23, 24, 25, 26, 27, 28, 29, 30, 31, 2, 3, 4] (fun d s W => (d 0 = true → s 11 = .pointer (some ⟨z0, 14, none⟩)) ∧ (d 1 = true → s 12 = .pointer (some ⟨z0, 16, none⟩)) ∧ (d 2 = true → s 13 = .int .i64 (R : Int)) ∧ (d 3 = true → s 14 = .pointer (some ⟨z0, 0, none⟩)) ∧ (d 4 = true → s 15 = .pointer (some ⟨z0, 0, none⟩)) ∧ (d 5 = true → s 16 = .int .i64 (s1 : Int)) ∧ (d 6 = true → BkL w1.heap.size R (s 17) W) ∧ (d 7 = true → s 18 = .pointer (some ⟨z0, 14, none⟩)) ∧ (d 8 = true → s 19 = .pointer (some ⟨z0, 17, none⟩)) ∧ (d 9 = true → s 20 = .int .i64 (C : Int)) ∧ (d 10 = true → s 21 = .pointer (some ⟨z0, 0, none⟩)) ∧ (d 11 = true → s 22 = .pointer (some ⟨z0, 1, none⟩)) ∧ (d 12 = true → s 23 = .int .i64 (s2 : Int)) ∧ (d 13 = true → BkL w1.heap.size C (s 24) W) ∧ (d 14 = true → s 25 = .pointer (some ⟨z0, 4, none⟩)) ∧ (d 15 = true → s 26 = .pointer (some ⟨z0, 7, none⟩)) ∧ (d 16 = true → s 27 = .int .i64 (K : Int)) ∧ (d 17 = true → s 28 = .pointer (some ⟨z0, 0, none⟩)) ∧ (d 18 = true → s 29 = .pointer (some ⟨z0, 2, none⟩)) ∧ (d 19 = true → s 30 = .int .i64 (s3 : Int)) ∧ (d 20 = true → BkL w1.heap.size K (s 31) W) ∧ (d 21 = true → BkL w1.heap.size R (s 2) W) ∧ (d 22 = true → BkL w1.heap.size C (s 3) W) ∧ (d 23 = true → BkL w1.heap.size K (s 4) W) ∧ Below w1.heap.size w1 W)
    rfl (by kernel_rfl) ?_ ?_ ?_
  · exact ⟨by simp, by simp, by simp, by simp, by simp, by simp, by simp, by simp, by simp, by simp, by simp, by simp, by simp, by simp, by simp, by simp, by simp, by simp, by simp, by simp, by simp, by simp, by simp, by simp, (Below.refl _ _).drew⟩
  · refine ⟨?_, ?_, ?_, ?_, ?_, ?_, ?_, ?_, ?_, ?_, ?_, ?_, ?_, ?_, ?_, ?_, ?_, ?_, ?_, ?_, ?_, ?_, ?_, ?_, trivial⟩
    all_goals
      intro d s W hJ hfr hd hdep
      simp only [List.mem_cons, forall_eq_or_imp, List.not_mem_nil, false_implies, implies_true, and_true, Region.binds] at hdep
      have f1 := hfr 1 (by decide)
      simp at f1 hdep
      obtain ⟨h0, h1, h2, h3, h4, h5, h6, h7, h8, h9, h10, h11, h12, h13, h14, h15, h16, h17, h18, h19, h20, h21, h22, h23, hT⟩ := hJ
    · as_aux_lemma =>
        unfold OpSteps
        simp [go_sem, evS, f1]
        exact ⟨fun _ => by simp [sput], kpwb h1, kpwb h2, kpwb h3, kpwb h4, kpwb h5, fun h => by simpa [sput] using h6 (by simpa [did] using h), kpwb h7, kpwb h8, kpwb h9, kpwb h10, kpwb h11, kpwb h12, fun h => by simpa [sput] using h13 (by simpa [did] using h), kpwb h14, kpwb h15, kpwb h16, kpwb h17, kpwb h18, kpwb h19, fun h => by simpa [sput] using h20 (by simpa [did] using h), fun h => by simpa [sput] using h21 (by simpa [did] using h), fun h => by simpa [sput] using h22 (by simpa [did] using h), fun h => by simpa [sput] using h23 (by simpa [did] using h), hT⟩
    · as_aux_lemma =>
        have g0 := h0 (by simp [hdep])
        unfold OpSteps
        simp [go_sem, evS, g0]
        exact ⟨kpwb h0, fun _ => by simp [sput], kpwb h2, kpwb h3, kpwb h4, kpwb h5, fun h => by simpa [sput] using h6 (by simpa [did] using h), kpwb h7, kpwb h8, kpwb h9, kpwb h10, kpwb h11, kpwb h12, fun h => by simpa [sput] using h13 (by simpa [did] using h), kpwb h14, kpwb h15, kpwb h16, kpwb h17, kpwb h18, kpwb h19, fun h => by simpa [sput] using h20 (by simpa [did] using h), fun h => by simpa [sput] using h21 (by simpa [did] using h), fun h => by simpa [sput] using h22 (by simpa [did] using h), fun h => by simpa [sput] using h23 (by simpa [did] using h), hT⟩
    · as_aux_lemma =>
        have g1 := h1 (by simp [hdep])
        unfold OpSteps
        obtain ⟨p0, p1, p2, p3, p4, p5, p6, p7, p8, p9, p10, p11, p12, p13, p14, p15, p16, p17, p18⟩ := cells19 (HZ1.out.below hT HZ1.out.lt)
        simp [go_sem, evS, g1, p0, p1, p2, p3, p4, p5, p6, p7, p8, p9, p10, p11, p12, p13, p14, p15, p16, p17, p18]
        exact ⟨kpwb h0, kpwb h1, fun _ => by simp [sput], kpwb h3, kpwb h4, kpwb h5, fun h => by simpa [sput] using h6 (by simpa [did] using h), kpwb h7, kpwb h8, kpwb h9, kpwb h10, kpwb h11, kpwb h12, fun h => by simpa [sput] using h13 (by simpa [did] using h), kpwb h14, kpwb h15, kpwb h16, kpwb h17, kpwb h18, kpwb h19, fun h => by simpa [sput] using h20 (by simpa [did] using h), fun h => by simpa [sput] using h21 (by simpa [did] using h), fun h => by simpa [sput] using h22 (by simpa [did] using h), fun h => by simpa [sput] using h23 (by simpa [did] using h), hT⟩
    · as_aux_lemma =>
        unfold OpSteps
        simp [go_sem, evS, f1]
        exact ⟨kpwb h0, kpwb h1, kpwb h2, fun _ => by simp [sput], kpwb h4, kpwb h5, fun h => by simpa [sput] using h6 (by simpa [did] using h), kpwb h7, kpwb h8, kpwb h9, kpwb h10, kpwb h11, kpwb h12, fun h => by simpa [sput] using h13 (by simpa [did] using h), kpwb h14, kpwb h15, kpwb h16, kpwb h17, kpwb h18, kpwb h19, fun h => by simpa [sput] using h20 (by simpa [did] using h), fun h => by simpa [sput] using h21 (by simpa [did] using h), fun h => by simpa [sput] using h22 (by simpa [did] using h), fun h => by simpa [sput] using h23 (by simpa [did] using h), hT⟩
    · as_aux_lemma =>
        have g3 := h3 (by simp [hdep])
        unfold OpSteps
        simp [go_sem, evS, g3]
        exact ⟨kpwb h0, kpwb h1, kpwb h2, kpwb h3, fun _ => by simp [sput], kpwb h5, fun h => by simpa [sput] using h6 (by simpa [did] using h), kpwb h7, kpwb h8, kpwb h9, kpwb h10, kpwb h11, kpwb h12, fun h => by simpa [sput] using h13 (by simpa [did] using h), kpwb h14, kpwb h15, kpwb h16, kpwb h17, kpwb h18, kpwb h19, fun h => by simpa [sput] using h20 (by simpa [did] using h), fun h => by simpa [sput] using h21 (by simpa [did] using h), fun h => by simpa [sput] using h22 (by simpa [did] using h), fun h => by simpa [sput] using h23 (by simpa [did] using h), hT⟩
    · as_aux_lemma =>
        have g4 := h4 (by simp [hdep])
        unfold OpSteps
        obtain ⟨p0, p1, p2, p3, p4, p5, p6, p7, p8, p9, p10, p11, p12, p13, p14, p15, p16, p17, p18⟩ := cells19 (HZ1.out.below hT HZ1.out.lt)
        simp [go_sem, evS, g4, p0, p1, p2, p3, p4, p5, p6, p7, p8, p9, p10, p11, p12, p13, p14, p15, p16, p17, p18]
        exact ⟨kpwb h0, kpwb h1, kpwb h2, kpwb h3, kpwb h4, fun _ => by simp [sput], fun h => by simpa [sput] using h6 (by simpa [did] using h), kpwb h7, kpwb h8, kpwb h9, kpwb h10, kpwb h11, kpwb h12, fun h => by simpa [sput] using h13 (by simpa [did] using h), kpwb h14, kpwb h15, kpwb h16, kpwb h17, kpwb h18, kpwb h19, fun h => by simpa [sput] using h20 (by simpa [did] using h), fun h => by simpa [sput] using h21 (by simpa [did] using h), fun h => by simpa [sput] using h22 (by simpa [did] using h), fun h => by simpa [sput] using h23 (by simpa [did] using h), hT⟩
    · as_aux_lemma =>
        have g2 := h2 (by simp [hdep])
        have g5 := h5 (by simp [hdep])
        unfold OpSteps
        simp [go_sem, evS, g2, g5]
        refine (HC1.out W).mono ?_
        rintro e W' ⟨Cq, mq, Aq, cq, rfl, hq1, hq2, hq3, hq4, hb⟩
        refine ⟨_, rfl, ?_⟩
        exact ⟨kpwb h0, kpwb h1, kpwb h2, kpwb h3, kpwb h4, kpwb h5, fun _ => ⟨Cq, mq, Aq, cq, by simp [sput], hq1, hq2, hq3, fun b x e => Nat.le_trans hT.size (hq4 b x e)⟩, kpwb h7, kpwb h8, kpwb h9, kpwb h10, kpwb h11, kpwb h12, fun h => by simpa [sput] using (h13 (by simpa [did] using h)).below hb, kpwb h14, kpwb h15, kpwb h16, kpwb h17, kpwb h18, kpwb h19, fun h => by simpa [sput] using (h20 (by simpa [did] using h)).below hb, fun h => by simpa [sput] using (h21 (by simpa [did] using h)).below hb, fun h => by simpa [sput] using (h22 (by simpa [did] using h)).below hb, fun h => by simpa [sput] using (h23 (by simpa [did] using h)).below hb, below_nx hT hb⟩
    · as_aux_lemma =>
        unfold OpSteps
        simp [go_sem, evS, f1]
        exact ⟨kpwb h0, kpwb h1, kpwb h2, kpwb h3, kpwb h4, kpwb h5, fun h => by simpa [sput] using h6 (by simpa [did] using h), fun _ => by simp [sput], kpwb h8, kpwb h9, kpwb h10, kpwb h11, kpwb h12, fun h => by simpa [sput] using h13 (by simpa [did] using h), kpwb h14, kpwb h15, kpwb h16, kpwb h17, kpwb h18, kpwb h19, fun h => by simpa [sput] using h20 (by simpa [did] using h), fun h => by simpa [sput] using h21 (by simpa [did] using h), fun h => by simpa [sput] using h22 (by simpa [did] using h), fun h => by simpa [sput] using h23 (by simpa [did] using h), hT⟩
    · as_aux_lemma =>
        have g7 := h7 (by simp [hdep])
        unfold OpSteps
        simp [go_sem, evS, g7]
        exact ⟨kpwb h0, kpwb h1, kpwb h2, kpwb h3, kpwb h4, kpwb h5, fun h => by simpa [sput] using h6 (by simpa [did] using h), kpwb h7, fun _ => by simp [sput], kpwb h9, kpwb h10, kpwb h11, kpwb h12, fun h => by simpa [sput] using h13 (by simpa [did] using h), kpwb h14, kpwb h15, kpwb h16, kpwb h17, kpwb h18, kpwb h19, fun h => by simpa [sput] using h20 (by simpa [did] using h), fun h => by simpa [sput] using h21 (by simpa [did] using h), fun h => by simpa [sput] using h22 (by simpa [did] using h), fun h => by simpa [sput] using h23 (by simpa [did] using h), hT⟩
    · as_aux_lemma =>
        have g8 := h8 (by simp [hdep])
        unfold OpSteps
        obtain ⟨p0, p1, p2, p3, p4, p5, p6, p7, p8, p9, p10, p11, p12, p13, p14, p15, p16, p17, p18⟩ := cells19 (HZ1.out.below hT HZ1.out.lt)
        simp [go_sem, evS, g8, p0, p1, p2, p3, p4, p5, p6, p7, p8, p9, p10, p11, p12, p13, p14, p15, p16, p17, p18]
        exact ⟨kpwb h0, kpwb h1, kpwb h2, kpwb h3, kpwb h4, kpwb h5, fun h => by simpa [sput] using h6 (by simpa [did] using h), kpwb h7, kpwb h8, fun _ => by simp [sput], kpwb h10, kpwb h11, kpwb h12, fun h => by simpa [sput] using h13 (by simpa [did] using h), kpwb h14, kpwb h15, kpwb h16, kpwb h17, kpwb h18, kpwb h19, fun h => by simpa [sput] using h20 (by simpa [did] using h), fun h => by simpa [sput] using h21 (by simpa [did] using h), fun h => by simpa [sput] using h22 (by simpa [did] using h), fun h => by simpa [sput] using h23 (by simpa [did] using h), hT⟩
    · as_aux_lemma =>
        unfold OpSteps
        simp [go_sem, evS, f1]
        exact ⟨kpwb h0, kpwb h1, kpwb h2, kpwb h3, kpwb h4, kpwb h5, fun h => by simpa [sput] using h6 (by simpa [did] using h), kpwb h7, kpwb h8, kpwb h9, fun _ => by simp [sput], kpwb h11, kpwb h12, fun h => by simpa [sput] using h13 (by simpa [did] using h), kpwb h14, kpwb h15, kpwb h16, kpwb h17, kpwb h18, kpwb h19, fun h => by simpa [sput] using h20 (by simpa [did] using h), fun h => by simpa [sput] using h21 (by simpa [did] using h), fun h => by simpa [sput] using h22 (by simpa [did] using h), fun h => by simpa [sput] using h23 (by simpa [did] using h), hT⟩
    · as_aux_lemma =>
        have g10 := h10 (by simp [hdep])
        unfold OpSteps
        simp [go_sem, evS, g10]
        exact ⟨kpwb h0, kpwb h1, kpwb h2, kpwb h3, kpwb h4, kpwb h5, fun h => by simpa [sput] using h6 (by simpa [did] using h), kpwb h7, kpwb h8, kpwb h9, kpwb h10, fun _ => by simp [sput], kpwb h12, fun h => by simpa [sput] using h13 (by simpa [did] using h), kpwb h14, kpwb h15, kpwb h16, kpwb h17, kpwb h18, kpwb h19, fun h => by simpa [sput] using h20 (by simpa [did] using h), fun h => by simpa [sput] using h21 (by simpa [did] using h), fun h => by simpa [sput] using h22 (by simpa [did] using h), fun h => by simpa [sput] using h23 (by simpa [did] using h), hT⟩
    · as_aux_lemma =>
        have g11 := h11 (by simp [hdep])
        unfold OpSteps
        obtain ⟨p0, p1, p2, p3, p4, p5, p6, p7, p8, p9, p10, p11, p12, p13, p14, p15, p16, p17, p18⟩ := cells19 (HZ1.out.below hT HZ1.out.lt)
        simp [go_sem, evS, g11, p0, p1, p2, p3, p4, p5, p6, p7, p8, p9, p10, p11, p12, p13, p14, p15, p16, p17, p18]
        exact ⟨kpwb h0, kpwb h1, kpwb h2, kpwb h3, kpwb h4, kpwb h5, fun h => by simpa [sput] using h6 (by simpa [did] using h), kpwb h7, kpwb h8, kpwb h9, kpwb h10, kpwb h11, fun _ => by simp [sput], fun h => by simpa [sput] using h13 (by simpa [did] using h), kpwb h14, kpwb h15, kpwb h16, kpwb h17, kpwb h18, kpwb h19, fun h => by simpa [sput] using h20 (by simpa [did] using h), fun h => by simpa [sput] using h21 (by simpa [did] using h), fun h => by simpa [sput] using h22 (by simpa [did] using h), fun h => by simpa [sput] using h23 (by simpa [did] using h), hT⟩
    · as_aux_lemma =>
        have g9 := h9 (by simp [hdep])
        have g12 := h12 (by simp [hdep])
        unfold OpSteps
        simp [go_sem, evS, g9, g12]
        refine (HC2.out W).mono ?_
        rintro e W' ⟨Cq, mq, Aq, cq, rfl, hq1, hq2, hq3, hq4, hb⟩
        refine ⟨_, rfl, ?_⟩
        exact ⟨kpwb h0, kpwb h1, kpwb h2, kpwb h3, kpwb h4, kpwb h5, fun h => by simpa [sput] using (h6 (by simpa [did] using h)).below hb, kpwb h7, kpwb h8, kpwb h9, kpwb h10, kpwb h11, kpwb h12, fun _ => ⟨Cq, mq, Aq, cq, by simp [sput], hq1, hq2, hq3, fun b x e => Nat.le_trans hT.size (hq4 b x e)⟩, kpwb h14, kpwb h15, kpwb h16, kpwb h17, kpwb h18, kpwb h19, fun h => by simpa [sput] using (h20 (by simpa [did] using h)).below hb, fun h => by simpa [sput] using (h21 (by simpa [did] using h)).below hb, fun h => by simpa [sput] using (h22 (by simpa [did] using h)).below hb, fun h => by simpa [sput] using (h23 (by simpa [did] using h)).below hb, below_nx hT hb⟩
    · as_aux_lemma =>
        unfold OpSteps
        simp [go_sem, evS, f1]
        exact ⟨kpwb h0, kpwb h1, kpwb h2, kpwb h3, kpwb h4, kpwb h5, fun h => by simpa [sput] using h6 (by simpa [did] using h), kpwb h7, kpwb h8, kpwb h9, kpwb h10, kpwb h11, kpwb h12, fun h => by simpa [sput] using h13 (by simpa [did] using h), fun _ => by simp [sput], kpwb h15, kpwb h16, kpwb h17, kpwb h18, kpwb h19, fun h => by simpa [sput] using h20 (by simpa [did] using h), fun h => by simpa [sput] using h21 (by simpa [did] using h), fun h => by simpa [sput] using h22 (by simpa [did] using h), fun h => by simpa [sput] using h23 (by simpa [did] using h), hT⟩
    · as_aux_lemma =>
        have g14 := h14 (by simp [hdep])
        unfold OpSteps
        simp [go_sem, evS, g14]
        exact ⟨kpwb h0, kpwb h1, kpwb h2, kpwb h3, kpwb h4, kpwb h5, fun h => by simpa [sput] using h6 (by simpa [did] using h), kpwb h7, kpwb h8, kpwb h9, kpwb h10, kpwb h11, kpwb h12, fun h => by simpa [sput] using h13 (by simpa [did] using h), kpwb h14, fun _ => by simp [sput], kpwb h16, kpwb h17, kpwb h18, kpwb h19, fun h => by simpa [sput] using h20 (by simpa [did] using h), fun h => by simpa [sput] using h21 (by simpa [did] using h), fun h => by simpa [sput] using h22 (by simpa [did] using h), fun h => by simpa [sput] using h23 (by simpa [did] using h), hT⟩
    · as_aux_lemma =>
        have g15 := h15 (by simp [hdep])
        unfold OpSteps
        obtain ⟨p0, p1, p2, p3, p4, p5, p6, p7, p8, p9, p10, p11, p12, p13, p14, p15, p16, p17, p18⟩ := cells19 (HZ1.out.below hT HZ1.out.lt)
        simp [go_sem, evS, g15, p0, p1, p2, p3, p4, p5, p6, p7, p8, p9, p10, p11, p12, p13, p14, p15, p16, p17, p18]
        exact ⟨kpwb h0, kpwb h1, kpwb h2, kpwb h3, kpwb h4, kpwb h5, fun h => by simpa [sput] using h6 (by simpa [did] using h), kpwb h7, kpwb h8, kpwb h9, kpwb h10, kpwb h11, kpwb h12, fun h => by simpa [sput] using h13 (by simpa [did] using h), kpwb h14, kpwb h15, fun _ => by simp [sput], kpwb h17, kpwb h18, kpwb h19, fun h => by simpa [sput] using h20 (by simpa [did] using h), fun h => by simpa [sput] using h21 (by simpa [did] using h), fun h => by simpa [sput] using h22 (by simpa [did] using h), fun h => by simpa [sput] using h23 (by simpa [did] using h), hT⟩
    · as_aux_lemma =>
        unfold OpSteps
        simp [go_sem, evS, f1]
        exact ⟨kpwb h0, kpwb h1, kpwb h2, kpwb h3, kpwb h4, kpwb h5, fun h => by simpa [sput] using h6 (by simpa [did] using h), kpwb h7, kpwb h8, kpwb h9, kpwb h10, kpwb h11, kpwb h12, fun h => by simpa [sput] using h13 (by simpa [did] using h), kpwb h14, kpwb h15, kpwb h16, fun _ => by simp [sput], kpwb h18, kpwb h19, fun h => by simpa [sput] using h20 (by simpa [did] using h), fun h => by simpa [sput] using h21 (by simpa [did] using h), fun h => by simpa [sput] using h22 (by simpa [did] using h), fun h => by simpa [sput] using h23 (by simpa [did] using h), hT⟩
    · as_aux_lemma =>
        have g17 := h17 (by simp [hdep])
        unfold OpSteps
        simp [go_sem, evS, g17]
        exact ⟨kpwb h0, kpwb h1, kpwb h2, kpwb h3, kpwb h4, kpwb h5, fun h => by simpa [sput] using h6 (by simpa [did] using h), kpwb h7, kpwb h8, kpwb h9, kpwb h10, kpwb h11, kpwb h12, fun h => by simpa [sput] using h13 (by simpa [did] using h), kpwb h14, kpwb h15, kpwb h16, kpwb h17, fun _ => by simp [sput], kpwb h19, fun h => by simpa [sput] using h20 (by simpa [did] using h), fun h => by simpa [sput] using h21 (by simpa [did] using h), fun h => by simpa [sput] using h22 (by simpa [did] using h), fun h => by simpa [sput] using h23 (by simpa [did] using h), hT⟩
    · as_aux_lemma =>
        have g18 := h18 (by simp [hdep])
        unfold OpSteps
        obtain ⟨p0, p1, p2, p3, p4, p5, p6, p7, p8, p9, p10, p11, p12, p13, p14, p15, p16, p17, p18⟩ := cells19 (HZ1.out.below hT HZ1.out.lt)
        simp [go_sem, evS, g18, p0, p1, p2, p3, p4, p5, p6, p7, p8, p9, p10, p11, p12, p13, p14, p15, p16, p17, p18]
        exact ⟨kpwb h0, kpwb h1, kpwb h2, kpwb h3, kpwb h4, kpwb h5, fun h => by simpa [sput] using h6 (by simpa [did] using h), kpwb h7, kpwb h8, kpwb h9, kpwb h10, kpwb h11, kpwb h12, fun h => by simpa [sput] using h13 (by simpa [did] using h), kpwb h14, kpwb h15, kpwb h16, kpwb h17, kpwb h18, fun _ => by simp [sput], fun h => by simpa [sput] using h20 (by simpa [did] using h), fun h => by simpa [sput] using h21 (by simpa [did] using h), fun h => by simpa [sput] using h22 (by simpa [did] using h), fun h => by simpa [sput] using h23 (by simpa [did] using h), hT⟩
    · as_aux_lemma =>
        have g16 := h16 (by simp [hdep])
        have g19 := h19 (by simp [hdep])
        unfold OpSteps
        simp [go_sem, evS, g16, g19]
        refine (HC3.out W).mono ?_
        rintro e W' ⟨Cq, mq, Aq, cq, rfl, hq1, hq2, hq3, hq4, hb⟩
        refine ⟨_, rfl, ?_⟩
        exact ⟨kpwb h0, kpwb h1, kpwb h2, kpwb h3, kpwb h4, kpwb h5, fun h => by simpa [sput] using (h6 (by simpa [did] using h)).below hb, kpwb h7, kpwb h8, kpwb h9, kpwb h10, kpwb h11, kpwb h12, fun h => by simpa [sput] using (h13 (by simpa [did] using h)).below hb, kpwb h14, kpwb h15, kpwb h16, kpwb h17, kpwb h18, kpwb h19, fun _ => ⟨Cq, mq, Aq, cq, by simp [sput], hq1, hq2, hq3, fun b x e => Nat.le_trans hT.size (hq4 b x e)⟩, fun h => by simpa [sput] using (h21 (by simpa [did] using h)).below hb, fun h => by simpa [sput] using (h22 (by simpa [did] using h)).below hb, fun h => by simpa [sput] using (h23 (by simpa [did] using h)).below hb, below_nx hT hb⟩
    · as_aux_lemma =>
        have g6 := h6 (by simp [hdep])
        unfold OpSteps
        simp [go_sem, evS, g6]
        exact ⟨kpwb h0, kpwb h1, kpwb h2, kpwb h3, kpwb h4, kpwb h5, fun h => by simpa [sput] using h6 (by simpa [did] using h), kpwb h7, kpwb h8, kpwb h9, kpwb h10, kpwb h11, kpwb h12, fun h => by simpa [sput] using h13 (by simpa [did] using h), kpwb h14, kpwb h15, kpwb h16, kpwb h17, kpwb h18, kpwb h19, fun h => by simpa [sput] using h20 (by simpa [did] using h), fun _ => by simpa [sput] using g6, fun h => by simpa [sput] using h22 (by simpa [did] using h), fun h => by simpa [sput] using h23 (by simpa [did] using h), hT⟩
    · as_aux_lemma =>
        have g13 := h13 (by simp [hdep])
        unfold OpSteps
        simp [go_sem, evS, g13]
        exact ⟨kpwb h0, kpwb h1, kpwb h2, kpwb h3, kpwb h4, kpwb h5, fun h => by simpa [sput] using h6 (by simpa [did] using h), kpwb h7, kpwb h8, kpwb h9, kpwb h10, kpwb h11, kpwb h12, fun h => by simpa [sput] using h13 (by simpa [did] using h), kpwb h14, kpwb h15, kpwb h16, kpwb h17, kpwb h18, kpwb h19, fun h => by simpa [sput] using h20 (by simpa [did] using h), fun h => by simpa [sput] using h21 (by simpa [did] using h), fun _ => by simpa [sput] using g13, fun h => by simpa [sput] using h23 (by simpa [did] using h), hT⟩
    · as_aux_lemma =>
        have g20 := h20 (by simp [hdep])
        unfold OpSteps
        simp [go_sem, evS, g20]
        exact ⟨kpwb h0, kpwb h1, kpwb h2, kpwb h3, kpwb h4, kpwb h5, fun h => by simpa [sput] using h6 (by simpa [did] using h), kpwb h7, kpwb h8, kpwb h9, kpwb h10, kpwb h11, kpwb h12, fun h => by simpa [sput] using h13 (by simpa [did] using h), kpwb h14, kpwb h15, kpwb h16, kpwb h17, kpwb h18, kpwb h19, fun h => by simpa [sput] using h20 (by simpa [did] using h), fun h => by simpa [sput] using h21 (by simpa [did] using h), fun h => by simpa [sput] using h22 (by simpa [did] using h), fun _ => by simpa [sput] using g20, hT⟩
  intro d s W hJ hd
  obtain ⟨h0, h1, h2, h3, h4, h5, h6, h7, h8, h9, h10, h11, h12, h13, h14, h15, h16, h17, h18, h19, h20, h21, h22, h23, hT⟩ := hJ
  obtain ⟨C1, m1, A1, c1, hs2, hF1, hm1, hR1, hlo1⟩ := h21 (hd 21 (by decide))
  obtain ⟨C2, m2, A2, c2, hs3, hF2, hm2, hR2, hlo2⟩ := h22 (hd 22 (by decide))
  obtain ⟨C3, m3, A3, c3, hs4, hF3, hm3, hR3, hlo3⟩ := h23 (hd 23 (by decide))
  have HF1 := Lib.hid hF1
  have HF2 := Lib.hid hF2
  have HF3 := Lib.hid hF3
  have HBm := Lib.hid hT
  have HH0 := Lib.hid (show BkH z0 #[.int .i64 (s1 : Int), .int .i64 (s2 : Int), .int .i64 (s3 : Int), .float .f64 a, .slice Ax nx cx, .int .i64 (om : Int), .int .i64 (R : Int), .int .i64 (K : Int), .int .i64 (Lm : Int), .slice Ay ny cy, .int .i64 (oy : Int), .int .i64 (K : Int), .int .i64 (C : Int), .int .i64 (Ly : Int), .slice (some ⟨g, 0, none⟩) n c, .int .i64 (o : Int), .int .i64 (R : Int), .int .i64 (C : Int), .int .i64 (L : Int)] A1 A2 A3 (prs C1 m1) (prs C2 m2) (prs C3 m3) W from ⟨HZ1.out.nxt hT, hR1, hR2, hR3⟩)
  have HN := Lib.hid (show BkN g z0 A1 A2 A3 from ⟨Hg.out.1, fun b x e => by have := hlo1 b x e; have := Hg.out; omega, fun b x e => by have := hlo2 b x e; have := Hg.out; omega, fun b x e => by have := hlo3 b x e; have := Hg.out; omega⟩)
  have HT0 := Lib.hid (HTb.out.nxt hT)
  clear h0 h1 h2 h3 h4 h5 h6 h7 h8 h9 h10 h11 h12 h13 h14 h15 h16 h17 h18 h19 h20 h21 h22 h23 hT hd hF1 hF2 hF3 hR1 hR2 hR3 hlo1 hlo2 hlo3
  simp [setAll, hs2, hs3, hs4]
  clear hs2 hs3 hs4
  generalize s 11 = s11
  generalize s 12 = s12
  generalize s 13 = s13
  generalize s 14 = s14
  generalize s 15 = s15
  generalize s 16 = s16
  generalize s 17 = s17
  generalize s 18 = s18
  generalize s 19 = s19
  generalize s 20 = s20
  generalize s 21 = s21
  generalize s 22 = s22
  generalize s 23 = s23
  generalize s 24 = s24
  generalize s 25 = s25
  generalize s 26 = s26
  generalize s 27 = s27
  generalize s 28 = s28
  generalize s 29 = s29
  generalize s 30 = s30
  generalize s 31 = s31
  generalize W = w2 at *
  clear HC1 HC2 HC3 HTb HBm HZ1 Hg
  go_wp2_with fail
  go_loopw [34] (fun x wr => ∃ q : Nat, q ≤ m2 ∧ x = .int .i64 (q : Int) ∧ Hid (BkT a b g l o R C L f gg w (kdF (bs C2 q) (bs C2 q) 0 0 0 K) wr ∧ BkH z0 #[.int .i64 (s1 : Int), .int .i64 (s2 : Int), .int .i64 (s3 : Int), .float .f64 a, .slice Ax nx cx, .int .i64 (om : Int), .int .i64 (R : Int), .int .i64 (K : Int), .int .i64 (Lm : Int), .slice Ay ny cy, .int .i64 (oy : Int), .int .i64 (K : Int), .int .i64 (C : Int), .int .i64 (Ly : Int), .slice (some ⟨g, 0, none⟩) n c, .int .i64 (o : Int), .int .i64 (R : Int), .int .i64 (C : Int), .int .i64 (L : Int)] A1 A2 A3 (prs C1 m1) (prs C2 m2) (prs C3 m3) wr)) (fun x _ => m2 - (intOf x).toNat)
  case atStart => exact ⟨0, Nat.zero_le _, rfl, Lib.hid ⟨HT0.out.kd (fun i _ j _ => by rw [kdF_same, HF2.out.zero]; simp), HH0.out⟩⟩
  case round =>
    clear HT0 HH0
    obtain ⟨q, hq, rfl, HL⟩ := hrel
    by_cases hlt : q < m2
    · have hqc : (q : Int) < (m2 : Int) := by omega
      have hq1 : q + 1 ≤ 1048576 := by have := Hb.out; omega
      have Hq := Lib.hid hlt
      obtain ⟨b2, x2, rfl, hc1, hc2⟩ := row_prs (HL.out.2.2.2.1) hlt
      rw [HF2.out.dd hlt] at hc2
      rw [HF2.out.cell] at hc1
      obtain ⟨j0, hj0⟩ : ∃ v, bs C2 q = v := ⟨_, rfl⟩
      obtain ⟨cn, hcn⟩ : ∃ v, bs C2 (q + 1) - bs C2 q = v := ⟨_, rfl⟩
      have Hj0 := Lib.hid hj0
      have Hcn := Lib.hid hcn
      rw [hj0] at hc1
      rw [hcn] at hc2
      clear hj0 hcn
      go_upto_region 5 with fail
      clear hc1 hc2
      have HCn := Lib.hid (Blk.new wr 64 #[.int .i64 (j0 : Int), .int .i64 (cn : Int)])
      have HL2 := Lib.hid (show BkT a b g l o R C L f gg w (kdF (bs C2 q) (bs C2 q) 0 0 0 K) (wr.alloc (.cells #[.int .i64 (j0 : Int), .int .i64 (cn : Int)] 64)) ∧ BkH _ _ _ _ _ _ _ _ (wr.alloc (.cells #[.int .i64 (j0 : Int), .int .i64 (cn : Int)] 64)) from ⟨HL.out.1.nxt ((Below.refl _ _).alloc (Nat.le_refl _) _), HL.out.2.nxt ((Below.refl _ _).alloc (Nat.le_refl _) _)⟩)
      have Hzc := Lib.hid (show g < wr.heap.size from by have := HN.out.1; have := HL.out.2.1.lt; omega)
      clear HL
      generalize hz : wr.heap.size = zc at *
      generalize wr.alloc (.cells #[.int .i64 (j0 : Int), .int .i64 (cn : Int)] 64) = wc2 at *
      clear hz
      go_wp2_with fail
      go_loopw [40] (fun x wr => ∃ p : Nat, p ≤ m1 ∧ x = .int .i64 (p : Int) ∧ Hid (BkT a b g l o R C L f gg w (kdF (bs C2 q) (bs C2 (q + 1)) (bs C1 p) (bs C1 p) 0 K) wr ∧ BkH _ _ _ _ _ _ _ _ wr ∧ Blk wr zc 64 #[.int .i64 (j0 : Int), .int .i64 (cn : Int)])) (fun x _ => m1 - (intOf x).toNat)
      case atStart => exact ⟨0, Nat.zero_le _, rfl, Lib.hid ⟨HL2.out.1.kd (fun i _ j _ => kdF_start HF1.out i j), HL2.out.2, HCn.out⟩⟩
      case round =>
        clear HL2 HCn hqc
        obtain ⟨p, hp, rfl, HL⟩ := hrel
        by_cases hlt : p < m1
        · have hpc : (p : Int) < (m1 : Int) := by omega
          have hp1 : p + 1 ≤ 1048576 := by have := Hb.out; omega
          have Hp := Lib.hid hlt
          obtain ⟨b1, x1, rfl, hc1, hc2⟩ := row_prs (HL.out.2.1.2.1) hlt
          rw [HF1.out.dd hlt] at hc2
          rw [HF1.out.cell] at hc1
          obtain ⟨i0, hi0⟩ : ∃ v, bs C1 p = v := ⟨_, rfl⟩
          obtain ⟨rn, hrn⟩ : ∃ v, bs C1 (p + 1) - bs C1 p = v := ⟨_, rfl⟩
          have Hi0 := Lib.hid hi0
          have Hrn := Lib.hid hrn
          rw [hi0] at hc1
          rw [hrn] at hc2
          clear hi0 hrn
          go_upto_region 8 with fail
          clear hc1 hc2
          have HRn := Lib.hid (Blk.new wr 64 #[.int .i64 (i0 : Int), .int .i64 (rn : Int)])
          have HL3 := Lib.hid (show BkT a b g l o R C L f gg w (kdF (bs C2 q) (bs C2 (q + 1)) (bs C1 p) (bs C1 p) 0 K) (wr.alloc (.cells #[.int .i64 (i0 : Int), .int .i64 (rn : Int)] 64)) ∧ BkH _ _ _ _ _ _ _ _ (wr.alloc (.cells #[.int .i64 (i0 : Int), .int .i64 (rn : Int)] 64)) ∧ Blk (wr.alloc (.cells #[.int .i64 (i0 : Int), .int .i64 (rn : Int)] 64)) zc 64 #[.int .i64 (j0 : Int), .int .i64 (cn : Int)] from ⟨HL.out.1.nxt ((Below.refl _ _).alloc (Nat.le_refl _) _), HL.out.2.1.nxt ((Below.refl _ _).alloc (Nat.le_refl _) _), HL.out.2.2.nxt ((Below.refl _ _).alloc (Nat.le_refl _) _)⟩)
          have Hzr := Lib.hid (show g < wr.heap.size from by have := HN.out.1; have := HL.out.2.1.1.lt; omega)
          clear HL
          generalize hz : wr.heap.size = zr at *
          generalize wr.alloc (.cells #[.int .i64 (i0 : Int), .int .i64 (rn : Int)] 64) = wr2 at *
          clear hz
          go_wp2_with fail
          go_loopw [46] (fun x wr => ∃ r : Nat, r ≤ m3 ∧ x = .int .i64 (r : Int) ∧ Hid (BkT a b g l o R C L f gg w (kdF (bs C2 q) (bs C2 (q + 1)) (bs C1 p) (bs C1 (p + 1)) (bs C3 r) K) wr ∧ BkH _ _ _ _ _ _ _ _ wr ∧ Blk wr zc 64 #[.int .i64 (j0 : Int), .int .i64 (cn : Int)] ∧ Blk wr zr 64 #[.int .i64 (i0 : Int), .int .i64 (rn : Int)])) (fun x _ => m3 - (intOf x).toNat)
          case atStart => exact ⟨0, Nat.zero_le _, rfl, Lib.hid ⟨HL3.out.1.kd (fun i _ j _ => kdF_sums HF3.out i j), HL3.out.2.1, HL3.out.2.2, HRn.out⟩⟩
          case round =>
            clear HL3 HRn hpc
            obtain ⟨r, hr, rfl, HL⟩ := hrel
            by_cases hlt : r < m3
            · have hrc : (r : Int) < (m3 : Int) := by omega
              have hr1 : r + 1 ≤ 1048576 := by have := Hb.out; omega
              have Hr := Lib.hid hlt
              obtain ⟨b3, x3, rfl, hc1, hc2⟩ := row_prs (HL.out.2.1.2.2.2) hlt
              rw [HF3.out.dd hlt] at hc2
              rw [HF3.out.cell] at hc1
              obtain ⟨k0, hk0⟩ : ∃ v, bs C3 r = v := ⟨_, rfl⟩
              obtain ⟨kn, hkn⟩ : ∃ v, bs C3 (r + 1) - bs C3 r = v := ⟨_, rfl⟩
              have Hk0 := Lib.hid hk0
              have Hkn := Lib.hid hkn
              rw [hk0] at hc1
              rw [hkn] at hc2
              clear hk0 hkn
              go_upto_region 11 with fail
              clear hc1 hc2
              have HS9 := Lib.hid (Blk.new wr 64 #[.int .i64 (k0 : Int), .int .i64 (kn : Int)])
              obtain ⟨lj, hO, hI, hc⟩ := HL.out.1.nxt (show Below wr.heap.size wr (wr.alloc (.cells #[.int .i64 (k0 : Int), .int .i64 (kn : Int)] 64)) from (Below.refl _ _).alloc (Nat.le_refl _) _)
              have HH := Lib.hid (HL.out.2.1.nxt (show Below wr.heap.size wr (wr.alloc (.cells #[.int .i64 (k0 : Int), .int .i64 (kn : Int)] 64)) from (Below.refl _ _).alloc (Nat.le_refl _) _))
              have HC9 := Lib.hid (HL.out.2.2.1.nxt (show Below wr.heap.size wr (wr.alloc (.cells #[.int .i64 (k0 : Int), .int .i64 (kn : Int)] 64)) from (Below.refl _ _).alloc (Nat.le_refl _) _))
              have HR9 := Lib.hid (HL.out.2.2.2.nxt (show Below wr.heap.size wr (wr.alloc (.cells #[.int .i64 (k0 : Int), .int .i64 (kn : Int)] 64)) from (Below.refl _ _).alloc (Nat.le_refl _) _))
              have HO := Lib.hid hO
              have HI := Lib.hid hI
              have HC := Lib.hid hc
              have HZ9 := Lib.hid HH.out.1
              clear HL hO hI hc
              generalize hz : wr.heap.size = zs at *
              generalize wr.alloc (.cells #[.int .i64 (k0 : Int), .int .i64 (kn : Int)] 64) = ws at *
              clear hz
              have hb3 := bk_three HF1.out HF2.out HF3.out Hp.out Hq.out Hr.out Hi0.out Hrn.out Hj0.out Hcn.out Hk0.out Hkn.out
              have HPx1 := Lib.hid (HPx0.out i0 rn k0 kn hb3.1.1 hb3.2.2.1 hb3.1.2.1 hb3.2.2.2.1)
              have HPy1 := Lib.hid (HPy0.out k0 kn j0 cn hb3.2.2.1 hb3.2.1.1 hb3.2.2.2.1 hb3.2.1.2.1)
              have HPz1 := Lib.hid (HPz0.out i0 rn j0 cn hb3.1.1 hb3.2.1.1 hb3.1.2.1 hb3.2.1.2.1)
              have HMu1 := Lib.hid (fun W (hb : Below ws.heap.size ws W) => HMu0.out i0 rn j0 cn k0 kn hb3.1.1 hb3.2.1.1 hb3.2.2.1 hb3.1.2.1 hb3.2.1.2.1 hb3.2.2.2.1 W lj (HO.out.nxt hb) (HC.out.nxt hb) (HI.out.congr fun _ _ _ _ _ h => h.lt))
              obtain ⟨ZQ, hZQ⟩ : ∃ ZQ : World → Prop, ZQ = fun W => BkT a b g l o R C L f gg w (kdF (bs C2 q) (bs C2 (q + 1)) (bs C1 p) (bs C1 (p + 1)) (bs C3 (r + 1)) K) W ∧ BkH z0 #[.int .i64 (s1 : Int), .int .i64 (s2 : Int), .int .i64 (s3 : Int), .float .f64 a, .slice Ax nx cx, .int .i64 (om : Int), .int .i64 (R : Int), .int .i64 (K : Int), .int .i64 (Lm : Int), .slice Ay ny cy, .int .i64 (oy : Int), .int .i64 (K : Int), .int .i64 (C : Int), .int .i64 (Ly : Int), .slice (some ⟨g, 0, none⟩) n c, .int .i64 (o : Int), .int .i64 (R : Int), .int .i64 (C : Int), .int .i64 (L : Int)] (some ⟨b1, x1, none⟩) (some ⟨b2, x2, none⟩) (some ⟨b3, x3, none⟩) (prs C1 m1) (prs C2 m2) (prs C3 m3) W ∧ Blk W zc 64 #[.int .i64 (j0 : Int), .int .i64 (cn : Int)] ∧ Blk W zr 64 #[.int .i64 (i0 : Int), .int .i64 (rn : Int)] := ⟨_, rfl⟩
              have HNx := Lib.hid (fun W (h : ZQ W) => by rw [hZQ] at h; exact h)
              have HZQ := Lib.hid (fun W W' (hb : Below ws.heap.size ws W) (h : BkD a g f gg o L i0 rn j0 cn k0 kn lj W W') => show ZQ W' from by
                rw [hZQ]
                obtain ⟨l', h1, h2, h3⟩ := h
                have h4 : Chg [g] ws W' := (Chg.of_below hb).trans h3
                refine ⟨⟨l', h1, bk_part HI.out Hb.out.2.2.2 hb3.1.2.1 hb3.2.1.2.1 h2 hb3.2.2.2.2.1 hb3.2.2.2.2.2.1 hb3.2.2.2.2.2.2, HC.out.trans h4⟩, HH.out.chg HN.out h4, h4.blk (by have := Hzc.out; simp; omega) HC9.out, h4.blk (by have := Hzr.out; simp; omega) HR9.out⟩)
              obtain ⟨ox9, hox9⟩ : ∃ v, om + i0 + k0 * Lm = v := ⟨_, rfl⟩
              obtain ⟨oy9, hoy9⟩ : ∃ v, oy + k0 + j0 * Ly = v := ⟨_, rfl⟩
              obtain ⟨oz9, hoz9⟩ : ∃ v, o + i0 + j0 * L = v := ⟨_, rfl⟩
              rw [hox9] at HPx1 HMu1
              rw [hoy9] at HPy1 HMu1
              rw [hoz9] at HPz1 HMu1
              have HPx := HPx1
              have HPy := HPy1
              have HPz := HPz1
              have HMu := Lib.hid (fun W (hb : Below ws.heap.size ws W) => (HMu1.out W hb).mono fun e w' h => show e = .returned (.int .i64 0) ∧ ZQ w' from ⟨h.1, HZQ.out W w' hb h.2⟩)
              clear hb3 hZQ HZQ HPx1 HPy1 HPz1 HMu1 hox9 hoy9 hoz9 HO HI HC HH hlt
              go_wp2_with fail
              refine wp_region_inv [50, 51, 52, 53, 54, 55, 56, 57, 58, 59, 60, 61, 62, 63, 64, 65, 66, 67] (fun d s W => (d 0 = true → s 50 = .pointer (some ⟨z0, 3, none⟩)) ∧ (d 1 = true → s 51 = .float .f64 a) ∧ (d 2 = true → s 52 = .pointer (some ⟨z0, 4, none⟩)) ∧ (d 3 = true → s 53 = .agg #[.slice Ax nx cx, .int .i64 (om : Int), .int .i64 (R : Int), .int .i64 (K : Int), .int .i64 (Lm : Int)]) ∧ (d 4 = true → s 54 = .agg #[.int .i64 (i0 : Int), .int .i64 (rn : Int)]) ∧ (d 5 = true → s 55 = .agg #[.int .i64 (k0 : Int), .int .i64 (kn : Int)]) ∧ (d 6 = true → s 56 = .agg #[.slice Ax nx cx, .int .i64 (ox9 : Int), .int .i64 (rn : Int), .int .i64 (kn : Int), .int .i64 (Lm : Int)]) ∧ (d 7 = true → s 57 = .pointer (some ⟨z0, 9, none⟩)) ∧ (d 8 = true → s 58 = .agg #[.slice Ay ny cy, .int .i64 (oy : Int), .int .i64 (K : Int), .int .i64 (C : Int), .int .i64 (Ly : Int)]) ∧ (d 9 = true → s 59 = .agg #[.int .i64 (k0 : Int), .int .i64 (kn : Int)]) ∧ (d 10 = true → s 60 = .agg #[.int .i64 (j0 : Int), .int .i64 (cn : Int)]) ∧ (d 11 = true → s 61 = .agg #[.slice Ay ny cy, .int .i64 (oy9 : Int), .int .i64 (kn : Int), .int .i64 (cn : Int), .int .i64 (Ly : Int)]) ∧ (d 12 = true → s 62 = .pointer (some ⟨z0, 14, none⟩)) ∧ (d 13 = true → s 63 = .agg #[.slice (some ⟨g, 0, none⟩) n c, .int .i64 (o : Int), .int .i64 (R : Int), .int .i64 (C : Int), .int .i64 (L : Int)]) ∧ (d 14 = true → s 64 = .agg #[.int .i64 (i0 : Int), .int .i64 (rn : Int)]) ∧ (d 15 = true → s 65 = .agg #[.int .i64 (j0 : Int), .int .i64 (cn : Int)]) ∧ (d 16 = true → s 66 = .agg #[.slice (some ⟨g, 0, none⟩) n c, .int .i64 (oz9 : Int), .int .i64 (rn : Int), .int .i64 (cn : Int), .int .i64 (L : Int)]) ∧ (d 17 = true → s 67 = .int .i64 0) ∧ (d 1 = true → d 0 = true) ∧ (d 3 = true → d 2 = true) ∧ (d 6 = true → d 2 = true ∧ d 3 = true ∧ d 4 = true ∧ d 5 = true) ∧ (d 8 = true → d 7 = true) ∧ (d 11 = true → d 7 = true ∧ d 8 = true ∧ d 9 = true ∧ d 10 = true) ∧ (d 13 = true → d 12 = true) ∧ (d 16 = true → d 12 = true ∧ d 13 = true ∧ d 14 = true ∧ d 15 = true) ∧ (d 17 = true → d 0 = true ∧ d 1 = true ∧ d 2 = true ∧ d 3 = true ∧ d 4 = true ∧ d 5 = true ∧ d 6 = true ∧ d 7 = true ∧ d 8 = true ∧ d 9 = true ∧ d 10 = true ∧ d 11 = true ∧ d 12 = true ∧ d 13 = true ∧ d 14 = true ∧ d 15 = true ∧ d 16 = true) ∧ ((d 17 = false → Below ws.heap.size ws W) ∧ (d 17 = true → ZQ W)))
                rfl (by kernel_rfl) ?_ ?_ ?_
              · exact ⟨by simp, by simp, by simp, by simp, by simp, by simp, by simp, by simp, by simp, by simp, by simp, by simp, by simp, by simp, by simp, by simp, by simp, by simp, by simp, by simp, by simp, by simp, by simp, by simp, by simp, by simp, ⟨fun _ => (Below.refl _ _).drew, fun h => by simp at h⟩⟩
              · refine ⟨?_, ?_, ?_, ?_, ?_, ?_, ?_, ?_, ?_, ?_, ?_, ?_, ?_, ?_, ?_, ?_, ?_, ?_, trivial⟩
                all_goals
                  intro d s W hJ hfr hd hdep
                  simp only [List.mem_cons, forall_eq_or_imp, List.not_mem_nil, false_implies, implies_true, and_true, Region.binds] at hdep
                  have f1 := hfr 1 (by decide)
                  have f6 := hfr 6 (by decide)
                  have f8 := hfr 8 (by decide)
                  have f10 := hfr 10 (by decide)
                  simp at f1 f6 f8 f10 hdep
                  obtain ⟨h0, h1, h2, h3, h4, h5, h6, h7, h8, h9, h10, h11, h12, h13, h14, h15, h16, h17, x0, x1, x2, x3, x4, x5, x6, x7, hT⟩ := hJ
                · as_aux_lemma =>
                    have hl : d 17 = false := by
                      cases h : d 17
                      · rfl
                      · have := x7 h; simp [hd] at this
                    replace hT := hT.1 hl
                    unfold OpSteps
                    simp [go_sem, evS, f1]
                    exact ⟨fun _ => by simp [sput], kpwb h1, kpwb h2, kpwb h3, kpwb h4, kpwb h5, kpwb h6, kpwb h7, kpwb h8, kpwb h9, kpwb h10, kpwb h11, kpwb h12, kpwb h13, kpwb h14, kpwb h15, kpwb h16, kpwb h17, fun h => by have := x0 (by simpa [did] using h); simp [did, this], fun h => by have := x1 (by simpa [did] using h); simp [did, this], fun h => by have := x2 (by simpa [did] using h); simp [did, this], fun h => by have := x3 (by simpa [did] using h); simp [did, this], fun h => by have := x4 (by simpa [did] using h); simp [did, this], fun h => by have := x5 (by simpa [did] using h); simp [did, this], fun h => by have := x6 (by simpa [did] using h); simp [did, this], fun h => by have := x7 (by simpa [did] using h); simp [did, this], ⟨fun _ => hT, fun h => by simp [did, hl] at h⟩⟩
                · as_aux_lemma =>
                    have hl : d 17 = false := by
                      cases h : d 17
                      · rfl
                      · have := x7 h; simp [hd] at this
                    replace hT := hT.1 hl
                    have g0 := h0 (by simp [hdep])
                    unfold OpSteps
                    obtain ⟨p0, p1, p2, p3, p4, p5, p6, p7, p8, p9, p10, p11, p12, p13, p14, p15, p16, p17, p18⟩ := cells19 (HZ9.out.below hT HZ9.out.lt)
                    simp [go_sem, evS, g0, p0, p1, p2, p3, p4, p5, p6, p7, p8, p9, p10, p11, p12, p13, p14, p15, p16, p17, p18]
                    exact ⟨kpwb h0, fun _ => by simp [sput], kpwb h2, kpwb h3, kpwb h4, kpwb h5, kpwb h6, kpwb h7, kpwb h8, kpwb h9, kpwb h10, kpwb h11, kpwb h12, kpwb h13, kpwb h14, kpwb h15, kpwb h16, kpwb h17, fun _ => by simp [did, hdep], fun h => by have := x1 (by simpa [did] using h); simp [did, this], fun h => by have := x2 (by simpa [did] using h); simp [did, this], fun h => by have := x3 (by simpa [did] using h); simp [did, this], fun h => by have := x4 (by simpa [did] using h); simp [did, this], fun h => by have := x5 (by simpa [did] using h); simp [did, this], fun h => by have := x6 (by simpa [did] using h); simp [did, this], fun h => by have := x7 (by simpa [did] using h); simp [did, this], ⟨fun _ => hT, fun h => by simp [did, hl] at h⟩⟩
                · as_aux_lemma =>
                    have hl : d 17 = false := by
                      cases h : d 17
                      · rfl
                      · have := x7 h; simp [hd] at this
                    replace hT := hT.1 hl
                    unfold OpSteps
                    simp [go_sem, evS, f1]
                    exact ⟨kpwb h0, kpwb h1, fun _ => by simp [sput], kpwb h3, kpwb h4, kpwb h5, kpwb h6, kpwb h7, kpwb h8, kpwb h9, kpwb h10, kpwb h11, kpwb h12, kpwb h13, kpwb h14, kpwb h15, kpwb h16, kpwb h17, fun h => by have := x0 (by simpa [did] using h); simp [did, this], fun h => by have := x1 (by simpa [did] using h); simp [did, this], fun h => by have := x2 (by simpa [did] using h); simp [did, this], fun h => by have := x3 (by simpa [did] using h); simp [did, this], fun h => by have := x4 (by simpa [did] using h); simp [did, this], fun h => by have := x5 (by simpa [did] using h); simp [did, this], fun h => by have := x6 (by simpa [did] using h); simp [did, this], fun h => by have := x7 (by simpa [did] using h); simp [did, this], ⟨fun _ => hT, fun h => by simp [did, hl] at h⟩⟩
                · as_aux_lemma =>
                    have hl : d 17 = false := by
                      cases h : d 17
                      · rfl
                      · have := x7 h; simp [hd] at this
                    replace hT := hT.1 hl
                    have g2 := h2 (by simp [hdep])
                    unfold OpSteps
                    obtain ⟨p0, p1, p2, p3, p4, p5, p6, p7, p8, p9, p10, p11, p12, p13, p14, p15, p16, p17, p18⟩ := cells19 (HZ9.out.below hT HZ9.out.lt)
                    simp [go_sem, evS, g2, p0, p1, p2, p3, p4, p5, p6, p7, p8, p9, p10, p11, p12, p13, p14, p15, p16, p17, p18]
                    exact ⟨kpwb h0, kpwb h1, kpwb h2, fun _ => by simp [sput], kpwb h4, kpwb h5, kpwb h6, kpwb h7, kpwb h8, kpwb h9, kpwb h10, kpwb h11, kpwb h12, kpwb h13, kpwb h14, kpwb h15, kpwb h16, kpwb h17, fun h => by have := x0 (by simpa [did] using h); simp [did, this], fun _ => by simp [did, hdep], fun h => by have := x2 (by simpa [did] using h); simp [did, this], fun h => by have := x3 (by simpa [did] using h); simp [did, this], fun h => by have := x4 (by simpa [did] using h); simp [did, this], fun h => by have := x5 (by simpa [did] using h); simp [did, this], fun h => by have := x6 (by simpa [did] using h); simp [did, this], fun h => by have := x7 (by simpa [did] using h); simp [did, this], ⟨fun _ => hT, fun h => by simp [did, hl] at h⟩⟩
                · as_aux_lemma =>
                    have hl : d 17 = false := by
                      cases h : d 17
                      · rfl
                      · have := x7 h; simp [hd] at this
                    replace hT := hT.1 hl
                    unfold OpSteps
                    obtain ⟨p0, p1⟩ := cells2j (HR9.out.below hT HR9.out.lt)
                    simp [go_sem, evS, f8, p0, p1]
                    exact ⟨kpwb h0, kpwb h1, kpwb h2, kpwb h3, fun _ => by simp [sput], kpwb h5, kpwb h6, kpwb h7, kpwb h8, kpwb h9, kpwb h10, kpwb h11, kpwb h12, kpwb h13, kpwb h14, kpwb h15, kpwb h16, kpwb h17, fun h => by have := x0 (by simpa [did] using h); simp [did, this], fun h => by have := x1 (by simpa [did] using h); simp [did, this], fun h => by have := x2 (by simpa [did] using h); simp [did, this], fun h => by have := x3 (by simpa [did] using h); simp [did, this], fun h => by have := x4 (by simpa [did] using h); simp [did, this], fun h => by have := x5 (by simpa [did] using h); simp [did, this], fun h => by have := x6 (by simpa [did] using h); simp [did, this], fun h => by have := x7 (by simpa [did] using h); simp [did, this], ⟨fun _ => hT, fun h => by simp [did, hl] at h⟩⟩
                · as_aux_lemma =>
                    have hl : d 17 = false := by
                      cases h : d 17
                      · rfl
                      · have := x7 h; simp [hd] at this
                    replace hT := hT.1 hl
                    unfold OpSteps
                    obtain ⟨p0, p1⟩ := cells2j (HS9.out.below hT HS9.out.lt)
                    simp [go_sem, evS, f10, p0, p1]
                    exact ⟨kpwb h0, kpwb h1, kpwb h2, kpwb h3, kpwb h4, fun _ => by simp [sput], kpwb h6, kpwb h7, kpwb h8, kpwb h9, kpwb h10, kpwb h11, kpwb h12, kpwb h13, kpwb h14, kpwb h15, kpwb h16, kpwb h17, fun h => by have := x0 (by simpa [did] using h); simp [did, this], fun h => by have := x1 (by simpa [did] using h); simp [did, this], fun h => by have := x2 (by simpa [did] using h); simp [did, this], fun h => by have := x3 (by simpa [did] using h); simp [did, this], fun h => by have := x4 (by simpa [did] using h); simp [did, this], fun h => by have := x5 (by simpa [did] using h); simp [did, this], fun h => by have := x6 (by simpa [did] using h); simp [did, this], fun h => by have := x7 (by simpa [did] using h); simp [did, this], ⟨fun _ => hT, fun h => by simp [did, hl] at h⟩⟩
                · as_aux_lemma =>
                    have hl : d 17 = false := by
                      cases h : d 17
                      · rfl
                      · have := x7 h; simp [hd] at this
                    replace hT := hT.1 hl
                    have g3 := h3 (by simp [hdep])
                    have g4 := h4 (by simp [hdep])
                    have g5 := h5 (by simp [hdep])
                    unfold OpSteps
                    simp [go_sem, evS, g3, g4, g5]
                    refine (HPx.out W).mono ?_
                    rintro e W' ⟨rfl, hb⟩
                    refine ⟨_, rfl, ?_⟩
                    exact ⟨kpwb h0, kpwb h1, kpwb h2, kpwb h3, kpwb h4, kpwb h5, fun _ => by simp [sput], kpwb h7, kpwb h8, kpwb h9, kpwb h10, kpwb h11, kpwb h12, kpwb h13, kpwb h14, kpwb h15, kpwb h16, kpwb h17, fun h => by have := x0 (by simpa [did] using h); simp [did, this], fun h => by have := x1 (by simpa [did] using h); simp [did, this], fun _ => by have y3 := x1 (by simp [hdep]); simp [did, hdep, y3], fun h => by have := x3 (by simpa [did] using h); simp [did, this], fun h => by have := x4 (by simpa [did] using h); simp [did, this], fun h => by have := x5 (by simpa [did] using h); simp [did, this], fun h => by have := x6 (by simpa [did] using h); simp [did, this], fun h => by have := x7 (by simpa [did] using h); simp [did, this], ⟨fun _ => below_nx hT hb, fun h => by simp [did, hl] at h⟩⟩
                · as_aux_lemma =>
                    have hl : d 17 = false := by
                      cases h : d 17
                      · rfl
                      · have := x7 h; simp [hd] at this
                    replace hT := hT.1 hl
                    unfold OpSteps
                    simp [go_sem, evS, f1]
                    exact ⟨kpwb h0, kpwb h1, kpwb h2, kpwb h3, kpwb h4, kpwb h5, kpwb h6, fun _ => by simp [sput], kpwb h8, kpwb h9, kpwb h10, kpwb h11, kpwb h12, kpwb h13, kpwb h14, kpwb h15, kpwb h16, kpwb h17, fun h => by have := x0 (by simpa [did] using h); simp [did, this], fun h => by have := x1 (by simpa [did] using h); simp [did, this], fun h => by have := x2 (by simpa [did] using h); simp [did, this], fun h => by have := x3 (by simpa [did] using h); simp [did, this], fun h => by have := x4 (by simpa [did] using h); simp [did, this], fun h => by have := x5 (by simpa [did] using h); simp [did, this], fun h => by have := x6 (by simpa [did] using h); simp [did, this], fun h => by have := x7 (by simpa [did] using h); simp [did, this], ⟨fun _ => hT, fun h => by simp [did, hl] at h⟩⟩
                · as_aux_lemma =>
                    have hl : d 17 = false := by
                      cases h : d 17
                      · rfl
                      · have := x7 h; simp [hd] at this
                    replace hT := hT.1 hl
                    have g7 := h7 (by simp [hdep])
                    unfold OpSteps
                    obtain ⟨p0, p1, p2, p3, p4, p5, p6, p7, p8, p9, p10, p11, p12, p13, p14, p15, p16, p17, p18⟩ := cells19 (HZ9.out.below hT HZ9.out.lt)
                    simp [go_sem, evS, g7, p0, p1, p2, p3, p4, p5, p6, p7, p8, p9, p10, p11, p12, p13, p14, p15, p16, p17, p18]
                    exact ⟨kpwb h0, kpwb h1, kpwb h2, kpwb h3, kpwb h4, kpwb h5, kpwb h6, kpwb h7, fun _ => by simp [sput], kpwb h9, kpwb h10, kpwb h11, kpwb h12, kpwb h13, kpwb h14, kpwb h15, kpwb h16, kpwb h17, fun h => by have := x0 (by simpa [did] using h); simp [did, this], fun h => by have := x1 (by simpa [did] using h); simp [did, this], fun h => by have := x2 (by simpa [did] using h); simp [did, this], fun _ => by simp [did, hdep], fun h => by have := x4 (by simpa [did] using h); simp [did, this], fun h => by have := x5 (by simpa [did] using h); simp [did, this], fun h => by have := x6 (by simpa [did] using h); simp [did, this], fun h => by have := x7 (by simpa [did] using h); simp [did, this], ⟨fun _ => hT, fun h => by simp [did, hl] at h⟩⟩
                · as_aux_lemma =>
                    have hl : d 17 = false := by
                      cases h : d 17
                      · rfl
                      · have := x7 h; simp [hd] at this
                    replace hT := hT.1 hl
                    unfold OpSteps
                    obtain ⟨p0, p1⟩ := cells2j (HS9.out.below hT HS9.out.lt)
                    simp [go_sem, evS, f10, p0, p1]
                    exact ⟨kpwb h0, kpwb h1, kpwb h2, kpwb h3, kpwb h4, kpwb h5, kpwb h6, kpwb h7, kpwb h8, fun _ => by simp [sput], kpwb h10, kpwb h11, kpwb h12, kpwb h13, kpwb h14, kpwb h15, kpwb h16, kpwb h17, fun h => by have := x0 (by simpa [did] using h); simp [did, this], fun h => by have := x1 (by simpa [did] using h); simp [did, this], fun h => by have := x2 (by simpa [did] using h); simp [did, this], fun h => by have := x3 (by simpa [did] using h); simp [did, this], fun h => by have := x4 (by simpa [did] using h); simp [did, this], fun h => by have := x5 (by simpa [did] using h); simp [did, this], fun h => by have := x6 (by simpa [did] using h); simp [did, this], fun h => by have := x7 (by simpa [did] using h); simp [did, this], ⟨fun _ => hT, fun h => by simp [did, hl] at h⟩⟩
                · as_aux_lemma =>
                    have hl : d 17 = false := by
                      cases h : d 17
                      · rfl
                      · have := x7 h; simp [hd] at this
                    replace hT := hT.1 hl
                    unfold OpSteps
                    obtain ⟨p0, p1⟩ := cells2j (HC9.out.below hT HC9.out.lt)
                    simp [go_sem, evS, f6, p0, p1]
                    exact ⟨kpwb h0, kpwb h1, kpwb h2, kpwb h3, kpwb h4, kpwb h5, kpwb h6, kpwb h7, kpwb h8, kpwb h9, fun _ => by simp [sput], kpwb h11, kpwb h12, kpwb h13, kpwb h14, kpwb h15, kpwb h16, kpwb h17, fun h => by have := x0 (by simpa [did] using h); simp [did, this], fun h => by have := x1 (by simpa [did] using h); simp [did, this], fun h => by have := x2 (by simpa [did] using h); simp [did, this], fun h => by have := x3 (by simpa [did] using h); simp [did, this], fun h => by have := x4 (by simpa [did] using h); simp [did, this], fun h => by have := x5 (by simpa [did] using h); simp [did, this], fun h => by have := x6 (by simpa [did] using h); simp [did, this], fun h => by have := x7 (by simpa [did] using h); simp [did, this], ⟨fun _ => hT, fun h => by simp [did, hl] at h⟩⟩
                · as_aux_lemma =>
                    have hl : d 17 = false := by
                      cases h : d 17
                      · rfl
                      · have := x7 h; simp [hd] at this
                    replace hT := hT.1 hl
                    have g8 := h8 (by simp [hdep])
                    have g9 := h9 (by simp [hdep])
                    have g10 := h10 (by simp [hdep])
                    unfold OpSteps
                    simp [go_sem, evS, g8, g9, g10]
                    refine (HPy.out W).mono ?_
                    rintro e W' ⟨rfl, hb⟩
                    refine ⟨_, rfl, ?_⟩
                    exact ⟨kpwb h0, kpwb h1, kpwb h2, kpwb h3, kpwb h4, kpwb h5, kpwb h6, kpwb h7, kpwb h8, kpwb h9, kpwb h10, fun _ => by simp [sput], kpwb h12, kpwb h13, kpwb h14, kpwb h15, kpwb h16, kpwb h17, fun h => by have := x0 (by simpa [did] using h); simp [did, this], fun h => by have := x1 (by simpa [did] using h); simp [did, this], fun h => by have := x2 (by simpa [did] using h); simp [did, this], fun h => by have := x3 (by simpa [did] using h); simp [did, this], fun _ => by have y8 := x3 (by simp [hdep]); simp [did, hdep, y8], fun h => by have := x5 (by simpa [did] using h); simp [did, this], fun h => by have := x6 (by simpa [did] using h); simp [did, this], fun h => by have := x7 (by simpa [did] using h); simp [did, this], ⟨fun _ => below_nx hT hb, fun h => by simp [did, hl] at h⟩⟩
                · as_aux_lemma =>
                    have hl : d 17 = false := by
                      cases h : d 17
                      · rfl
                      · have := x7 h; simp [hd] at this
                    replace hT := hT.1 hl
                    unfold OpSteps
                    simp [go_sem, evS, f1]
                    exact ⟨kpwb h0, kpwb h1, kpwb h2, kpwb h3, kpwb h4, kpwb h5, kpwb h6, kpwb h7, kpwb h8, kpwb h9, kpwb h10, kpwb h11, fun _ => by simp [sput], kpwb h13, kpwb h14, kpwb h15, kpwb h16, kpwb h17, fun h => by have := x0 (by simpa [did] using h); simp [did, this], fun h => by have := x1 (by simpa [did] using h); simp [did, this], fun h => by have := x2 (by simpa [did] using h); simp [did, this], fun h => by have := x3 (by simpa [did] using h); simp [did, this], fun h => by have := x4 (by simpa [did] using h); simp [did, this], fun h => by have := x5 (by simpa [did] using h); simp [did, this], fun h => by have := x6 (by simpa [did] using h); simp [did, this], fun h => by have := x7 (by simpa [did] using h); simp [did, this], ⟨fun _ => hT, fun h => by simp [did, hl] at h⟩⟩
                · as_aux_lemma =>
                    have hl : d 17 = false := by
                      cases h : d 17
                      · rfl
                      · have := x7 h; simp [hd] at this
                    replace hT := hT.1 hl
                    have g12 := h12 (by simp [hdep])
                    unfold OpSteps
                    obtain ⟨p0, p1, p2, p3, p4, p5, p6, p7, p8, p9, p10, p11, p12, p13, p14, p15, p16, p17, p18⟩ := cells19 (HZ9.out.below hT HZ9.out.lt)
                    simp [go_sem, evS, g12, p0, p1, p2, p3, p4, p5, p6, p7, p8, p9, p10, p11, p12, p13, p14, p15, p16, p17, p18]
                    exact ⟨kpwb h0, kpwb h1, kpwb h2, kpwb h3, kpwb h4, kpwb h5, kpwb h6, kpwb h7, kpwb h8, kpwb h9, kpwb h10, kpwb h11, kpwb h12, fun _ => by simp [sput], kpwb h14, kpwb h15, kpwb h16, kpwb h17, fun h => by have := x0 (by simpa [did] using h); simp [did, this], fun h => by have := x1 (by simpa [did] using h); simp [did, this], fun h => by have := x2 (by simpa [did] using h); simp [did, this], fun h => by have := x3 (by simpa [did] using h); simp [did, this], fun h => by have := x4 (by simpa [did] using h); simp [did, this], fun _ => by simp [did, hdep], fun h => by have := x6 (by simpa [did] using h); simp [did, this], fun h => by have := x7 (by simpa [did] using h); simp [did, this], ⟨fun _ => hT, fun h => by simp [did, hl] at h⟩⟩
                · as_aux_lemma =>
                    have hl : d 17 = false := by
                      cases h : d 17
                      · rfl
                      · have := x7 h; simp [hd] at this
                    replace hT := hT.1 hl
                    unfold OpSteps
                    obtain ⟨p0, p1⟩ := cells2j (HR9.out.below hT HR9.out.lt)
                    simp [go_sem, evS, f8, p0, p1]
                    exact ⟨kpwb h0, kpwb h1, kpwb h2, kpwb h3, kpwb h4, kpwb h5, kpwb h6, kpwb h7, kpwb h8, kpwb h9, kpwb h10, kpwb h11, kpwb h12, kpwb h13, fun _ => by simp [sput], kpwb h15, kpwb h16, kpwb h17, fun h => by have := x0 (by simpa [did] using h); simp [did, this], fun h => by have := x1 (by simpa [did] using h); simp [did, this], fun h => by have := x2 (by simpa [did] using h); simp [did, this], fun h => by have := x3 (by simpa [did] using h); simp [did, this], fun h => by have := x4 (by simpa [did] using h); simp [did, this], fun h => by have := x5 (by simpa [did] using h); simp [did, this], fun h => by have := x6 (by simpa [did] using h); simp [did, this], fun h => by have := x7 (by simpa [did] using h); simp [did, this], ⟨fun _ => hT, fun h => by simp [did, hl] at h⟩⟩
                · as_aux_lemma =>
                    have hl : d 17 = false := by
                      cases h : d 17
                      · rfl
                      · have := x7 h; simp [hd] at this
                    replace hT := hT.1 hl
                    unfold OpSteps
                    obtain ⟨p0, p1⟩ := cells2j (HC9.out.below hT HC9.out.lt)
                    simp [go_sem, evS, f6, p0, p1]
                    exact ⟨kpwb h0, kpwb h1, kpwb h2, kpwb h3, kpwb h4, kpwb h5, kpwb h6, kpwb h7, kpwb h8, kpwb h9, kpwb h10, kpwb h11, kpwb h12, kpwb h13, kpwb h14, fun _ => by simp [sput], kpwb h16, kpwb h17, fun h => by have := x0 (by simpa [did] using h); simp [did, this], fun h => by have := x1 (by simpa [did] using h); simp [did, this], fun h => by have := x2 (by simpa [did] using h); simp [did, this], fun h => by have := x3 (by simpa [did] using h); simp [did, this], fun h => by have := x4 (by simpa [did] using h); simp [did, this], fun h => by have := x5 (by simpa [did] using h); simp [did, this], fun h => by have := x6 (by simpa [did] using h); simp [did, this], fun h => by have := x7 (by simpa [did] using h); simp [did, this], ⟨fun _ => hT, fun h => by simp [did, hl] at h⟩⟩
                · as_aux_lemma =>
                    have hl : d 17 = false := by
                      cases h : d 17
                      · rfl
                      · have := x7 h; simp [hd] at this
                    replace hT := hT.1 hl
                    have g13 := h13 (by simp [hdep])
                    have g14 := h14 (by simp [hdep])
                    have g15 := h15 (by simp [hdep])
                    unfold OpSteps
                    simp [go_sem, evS, g13, g14, g15]
                    refine (HPz.out W).mono ?_
                    rintro e W' ⟨rfl, hb⟩
                    refine ⟨_, rfl, ?_⟩
                    exact ⟨kpwb h0, kpwb h1, kpwb h2, kpwb h3, kpwb h4, kpwb h5, kpwb h6, kpwb h7, kpwb h8, kpwb h9, kpwb h10, kpwb h11, kpwb h12, kpwb h13, kpwb h14, kpwb h15, fun _ => by simp [sput], kpwb h17, fun h => by have := x0 (by simpa [did] using h); simp [did, this], fun h => by have := x1 (by simpa [did] using h); simp [did, this], fun h => by have := x2 (by simpa [did] using h); simp [did, this], fun h => by have := x3 (by simpa [did] using h); simp [did, this], fun h => by have := x4 (by simpa [did] using h); simp [did, this], fun h => by have := x5 (by simpa [did] using h); simp [did, this], fun _ => by have y13 := x5 (by simp [hdep]); simp [did, hdep, y13], fun h => by have := x7 (by simpa [did] using h); simp [did, this], ⟨fun _ => below_nx hT hb, fun h => by simp [did, hl] at h⟩⟩
                · as_aux_lemma =>
                    have g1 := h1 (by simp [hdep])
                    have g6 := h6 (by simp [hdep])
                    have g11 := h11 (by simp [hdep])
                    have g16 := h16 (by simp [hdep])
                    unfold OpSteps
                    have hT0 := hT.1 hd
                    simp [go_sem, evS, g1, g6, g11, g16]
                    refine (HMu.out W hT0).mono ?_
                    rintro e W' ⟨rfl, hD9⟩
                    refine ⟨_, rfl, ?_⟩
                    exact ⟨kpwb h0, kpwb h1, kpwb h2, kpwb h3, kpwb h4, kpwb h5, kpwb h6, kpwb h7, kpwb h8, kpwb h9, kpwb h10, kpwb h11, kpwb h12, kpwb h13, kpwb h14, kpwb h15, kpwb h16, fun _ => by simp [sput], fun h => by have := x0 (by simpa [did] using h); simp [did, this], fun h => by have := x1 (by simpa [did] using h); simp [did, this], fun h => by have := x2 (by simpa [did] using h); simp [did, this], fun h => by have := x3 (by simpa [did] using h); simp [did, this], fun h => by have := x4 (by simpa [did] using h); simp [did, this], fun h => by have := x5 (by simpa [did] using h); simp [did, this], fun h => by have := x6 (by simpa [did] using h); simp [did, this], fun _ => by have y1 := x0 (by simp [hdep]); have y6 := x2 (by simp [hdep]); have y11 := x4 (by simp [hdep]); have y16 := x6 (by simp [hdep]); simp [did, hdep, y1, y6, y11, y16], ⟨fun h => by simp [did] at h, fun _ => hD9⟩⟩
              intro d s W hJ hd
              obtain ⟨h0, h1, h2, h3, h4, h5, h6, h7, h8, h9, h10, h11, h12, h13, h14, h15, h16, h17, x0, x1, x2, x3, x4, x5, x6, x7, hT⟩ := hJ
              have HQ9 := Lib.hid (hT.2 (hd 17 (by decide)))
              clear h0 h1 h2 h3 h4 h5 h6 h7 h8 h9 h10 h11 h12 h13 h14 h15 h16 h17 x0 x1 x2 x3 x4 x5 x6 x7 hT hd
              simp [setAll]
              generalize s 50 = s50
              generalize s 51 = s51
              generalize s 52 = s52
              generalize s 53 = s53
              generalize s 54 = s54
              generalize s 55 = s55
              generalize s 56 = s56
              generalize s 57 = s57
              generalize s 58 = s58
              generalize s 59 = s59
              generalize s 60 = s60
              generalize s 61 = s61
              generalize s 62 = s62
              generalize s 63 = s63
              generalize s 64 = s64
              generalize s 65 = s65
              generalize s 66 = s66
              generalize s 67 = s67
              generalize W = w9 at *
              go_wp2_with fail
              go_roundw
              case rel => exact ⟨r + 1, by omega, by go_num, Lib.hid (HNx.out w9 HQ9.out)⟩
              case measure => simp [intOf]; omega
            · obtain rfl : r = m3 := by omega
              have hrc : ¬ (r : Int) < (r : Int) := by omega
              have HE := Lib.hid (show BkT a b g l o R C L f gg w (kdF (bs C2 q) (bs C2 (q + 1)) (bs C1 (p + 1)) (bs C1 (p + 1)) 0 K) wr ∧ BkH _ _ _ _ _ _ _ _ wr ∧ Blk wr zc 64 #[.int .i64 (j0 : Int), .int .i64 (cn : Int)] from ⟨HL.out.1.kd (fun i _ j _ => by rw [HF3.out.last]; exact kdF_rowdone (by have := HF1.out.lt p Hp.out; omega) i j), HL.out.2.1, HL.out.2.2.1⟩)
              clear HL
              go_wp2_with fail
              go_roundw
              case rel => exact ⟨p + 1, by omega, by go_num, HE⟩
              case measure => simp [intOf]; omega
        · obtain rfl : p = m1 := by omega
          have hpc : ¬ (p : Int) < (p : Int) := by omega
          have HE := Lib.hid (show BkT a b g l o R C L f gg w (kdF (bs C2 (q + 1)) (bs C2 (q + 1)) 0 0 0 K) wr ∧ BkH _ _ _ _ _ _ _ _ wr from ⟨HL.out.1.kd (fun i hi j _ => by rw [HF1.out.last]; exact kdF_coldone (by have := HF2.out.lt q Hq.out; omega) i j hi), HL.out.2.1⟩)
          clear HL
          go_wp2_with fail
          go_roundw
          case rel => exact ⟨q + 1, by omega, by go_num, HE⟩
          case measure => simp [intOf]; omega
    · obtain rfl : q = m2 := by omega
      have hqc : ¬ (q : Int) < (q : Int) := by omega
      have HE := Lib.hid (show BkT a b g l o R C L f gg w (fun _ _ => K) wr from HL.out.1.kd (fun i _ j hj => by rw [kdF_same, HF2.out.last, if_pos hj]))
      clear HL
      go_wp2_with fail
      go_end0
      exact ⟨rfl, HE.out⟩
end Go.Proofs.Ytbeefnekblepfaa
