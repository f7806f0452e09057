/-
Block: begin; parts of right matrices. Conditions: as each says.
-/
import Derived.Test.YtbeefnekblepfaaZBkB
import Derived.Test.YtbeefnekblepfaaUaaj
set_option linter.unusedVariables false
set_option linter.unusedSimpArgs false
set_option linter.unnecessarySimpa false
namespace Go.Proofs.Ytbeefnekblepfaa
open Go.RowKit
attribute [local go_sem ↓] Go.wp_at_zero Go.wp_at_succ


theorem kpvb {d : Nat → Bool} {i j : Nat} {s : Nat → Value} {k : Nat} {dst : Option Nat} {v x : Value} (h : d j = true → s k = x) (hj : j ≠ i) (hk : dst ≠ some k) : did d i j = true → sput s dst v k = x := fun e => by
  rw [did_ne d hj] at e
  unfold sput
  rw [if_neg hk]
  exact h e
theorem kpwb {d : Nat → Bool} {i j : Nat} {s : Nat → Value} {k : Nat} {dst : Option Nat} {v x : Value} (h : d j = true → s k = x) (hj : j ≠ i := by decide) (hk : dst ≠ some k := by decide) : did d i j = true → sput s dst v k = x := kpvb h hj hk

set_option maxRecDepth 100000 in
set_option maxHeartbeats 2000000 in
theorem bkbegin_any (s1 s2 s3 : Int) (a b : Nat) (Ax : Option Addr) (nx cx : Nat) (xo xr xk xl : Int) (Ay : Option Addr) (ny cy : Nat) (yo yr yk yl : Int) (Az : Option Addr) (nz cz : Nat) (zo zr zk zl : Int) (Q : World → Prop) (w : World)
    (hPx : ∀ W, Calls Try.prog 34 #[mat Ax nx cx xo xr xk xl, .int .i64 0, .int .i64 0, .int .i64 xr, .int .i64 0] W fun e w' => e = .returned (mat Ax nx cx xo xr 0 xl) ∧ Below W.heap.size W w')
    (hPy : ∀ W, Calls Try.prog 34 #[mat Ay ny cy yo yr yk yl, .int .i64 0, .int .i64 0, .int .i64 0, .int .i64 yk] W fun e w' => e = .returned (mat Ay ny cy yo 0 yk yl) ∧ Below W.heap.size W w')
    (hMul : ∀ W, Below w.heap.size w W → Calls Try.prog 33 #[.float .f64 a, mat Ax nx cx xo xr 0 xl, mat Ay ny cy yo 0 yk yl, .float .f64 b, mat Az nz cz zo zr zk zl] W fun e w' => e = .returned (.int .i64 0) ∧ Q w') :
    Calls Try.prog 19 #[.agg #[.int .i64 s1, .int .i64 s2, .int .i64 s3, .float .f64 a, .slice Ax nx cx, .int .i64 xo, .int .i64 xr, .int .i64 xk, .int .i64 xl, .slice Ay ny cy, .int .i64 yo, .int .i64 yr, .int .i64 yk, .int .i64 yl, .slice Az nz cz, .int .i64 zo, .int .i64 zr, .int .i64 zk, .int .i64 zl], .float .f64 b] w fun e w' => e = .returned (.tuple #[]) ∧ Q w' := by
  have HPx := Lib.hid hPx
  have HPy := Lib.hid hPy
  have HB0 := Lib.hid ((Below.refl w.heap.size w).alloc (Nat.le_refl _) (.cells #[.int .i64 s1, .int .i64 s2, .int .i64 s3, .float .f64 a, .slice Ax nx cx, .int .i64 xo, .int .i64 xr, .int .i64 xk, .int .i64 xl, .slice Ay ny cy, .int .i64 yo, .int .i64 yr, .int .i64 yk, .int .i64 yl, .slice Az nz cz, .int .i64 zo, .int .i64 zr, .int .i64 zk, .int .i64 zl] 48))
  have HMu := Lib.hid (fun W (hb : Below (w.alloc (.cells #[.int .i64 s1, .int .i64 s2, .int .i64 s3, .float .f64 a, .slice Ax nx cx, .int .i64 xo, .int .i64 xr, .int .i64 xk, .int .i64 xl, .slice Ay ny cy, .int .i64 yo, .int .i64 yr, .int .i64 yk, .int .i64 yl, .slice Az nz cz, .int .i64 zo, .int .i64 zr, .int .i64 zk, .int .i64 zl] 48)).heap.size (w.alloc (.cells #[.int .i64 s1, .int .i64 s2, .int .i64 s3, .float .f64 a, .slice Ax nx cx, .int .i64 xo, .int .i64 xr, .int .i64 xk, .int .i64 xl, .slice Ay ny cy, .int .i64 yo, .int .i64 yr, .int .i64 yk, .int .i64 yl, .slice Az nz cz, .int .i64 zo, .int .i64 zr, .int .i64 zk, .int .i64 zl] 48)) W) => hMul W (below_nx HB0.out hb))
  have HZ1 := Lib.hid (Blk.new w 48 #[.int .i64 s1, .int .i64 s2, .int .i64 s3, .float .f64 a, .slice Ax nx cx, .int .i64 xo, .int .i64 xr, .int .i64 xk, .int .i64 xl, .slice Ay ny cy, .int .i64 yo, .int .i64 yr, .int .i64 yk, .int .i64 yl, .slice Az nz cz, .int .i64 zo, .int .i64 zr, .int .i64 zk, .int .i64 zl])
  clear hPx hPy hMul HB0
  unfold mat at *
  go_enter Try.func19, Try.ntmps19
  go_wp2_with fail
  generalize hw1 : w.alloc (.cells #[.int .i64 s1, .int .i64 s2, .int .i64 s3, .float .f64 a, .slice Ax nx cx, .int .i64 xo, .int .i64 xr, .int .i64 xk, .int .i64 xl, .slice Ay ny cy, .int .i64 yo, .int .i64 yr, .int .i64 yk, .int .i64 yl, .slice Az nz cz, .int .i64 zo, .int .i64 zr, .int .i64 zk, .int .i64 zl] 48) = w1 at *
  generalize hz0 : w.heap.size = z0 at *
  clear hw1 hz0
  refine wp_region_inv [4, 5, 6, 7, 8, 9, 10, 11, 12, 13, 14, 15, 16, 17, 18, 19, 20, 21] (fun d s W => (d 0 = true → s 4 = .pointer (some ⟨z0, 3, none⟩)) ∧ (d 1 = true → s 5 = .float .f64 a) ∧ (d 2 = true → s 6 = .pointer (some ⟨z0, 4, none⟩)) ∧ (d 3 = true → s 7 = .agg #[.slice Ax nx cx, .int .i64 xo, .int .i64 xr, .int .i64 xk, .int .i64 xl]) ∧ (d 4 = true → s 8 = .pointer (some ⟨z0, 4, none⟩)) ∧ (d 5 = true → s 9 = .pointer (some ⟨z0, 6, none⟩)) ∧ (d 6 = true → s 10 = .int .i64 xr) ∧ (d 7 = true → s 11 = .agg #[.slice Ax nx cx, .int .i64 xo, .int .i64 xr, .int .i64 0, .int .i64 xl]) ∧ (d 8 = true → s 12 = .pointer (some ⟨z0, 9, none⟩)) ∧ (d 9 = true → s 13 = .agg #[.slice Ay ny cy, .int .i64 yo, .int .i64 yr, .int .i64 yk, .int .i64 yl]) ∧ (d 10 = true → s 14 = .pointer (some ⟨z0, 9, none⟩)) ∧ (d 11 = true → s 15 = .pointer (some ⟨z0, 12, none⟩)) ∧ (d 12 = true → s 16 = .int .i64 yk) ∧ (d 13 = true → s 17 = .agg #[.slice Ay ny cy, .int .i64 yo, .int .i64 0, .int .i64 yk, .int .i64 yl]) ∧ (d 14 = true → s 18 = .float .f64 b) ∧ (d 15 = true → s 19 = .pointer (some ⟨z0, 14, none⟩)) ∧ (d 16 = true → s 20 = .agg #[.slice Az nz cz, .int .i64 zo, .int .i64 zr, .int .i64 zk, .int .i64 zl]) ∧ (d 17 = true → s 21 = .int .i64 0) ∧ (d 1 = true → d 0 = true) ∧ (d 3 = true → d 2 = true) ∧ (d 5 = true → d 4 = true) ∧ (d 6 = true → d 4 = true ∧ d 5 = true) ∧ (d 7 = true → d 2 = true ∧ d 3 = true ∧ d 4 = true ∧ d 5 = true ∧ d 6 = true) ∧ (d 9 = true → d 8 = true) ∧ (d 11 = true → d 10 = true) ∧ (d 12 = true → d 10 = true ∧ d 11 = true) ∧ (d 13 = true → d 8 = true ∧ d 9 = true ∧ d 10 = true ∧ d 11 = true ∧ d 12 = true) ∧ (d 16 = true → d 15 = true) ∧ (d 17 = true → d 0 = true ∧ d 1 = true ∧ d 2 = true ∧ d 3 = true ∧ d 4 = true ∧ d 5 = true ∧ d 6 = true ∧ d 7 = true ∧ d 8 = true ∧ d 9 = true ∧ d 10 = true ∧ d 11 = true ∧ d 12 = true ∧ d 13 = true ∧ d 14 = true ∧ d 15 = true ∧ d 16 = true) ∧ ((d 17 = false → Below w1.heap.size w1 W) ∧ (d 17 = true → Q W)))
    rfl (by kernel_rfl) ?_ ?_ ?_
  · exact ⟨by simp, by simp, by simp, by simp, by simp, by simp, by simp, by simp, by simp, by simp, by simp, by simp, by simp, by simp, by simp, by simp, by simp, by simp, by simp, by simp, by simp, by simp, by simp, by simp, by simp, by simp, by simp, by simp, by simp, ⟨fun _ => (Below.refl _ _).drew, fun h => by simp at h⟩⟩
  · refine ⟨?_, ?_, ?_, ?_, ?_, ?_, ?_, ?_, ?_, ?_, ?_, ?_, ?_, ?_, ?_, ?_, ?_, ?_, trivial⟩
    all_goals
      intro d s W hJ hfr hd hdep
      simp only [List.mem_cons, forall_eq_or_imp, List.not_mem_nil, false_implies, implies_true, and_true, Region.binds] at hdep
      have f1 := hfr 1 (by decide)
      have f2 := hfr 2 (by decide)
      simp at f1 f2 hdep
      obtain ⟨h0, h1, h2, h3, h4, h5, h6, h7, h8, h9, h10, h11, h12, h13, h14, h15, h16, h17, x0, x1, x2, x3, x4, x5, x6, x7, x8, x9, x10, hT⟩ := hJ
    · as_aux_lemma =>
        have hl : d 17 = false := by
          cases h : d 17
          · rfl
          · have := x10 h; simp [hd] at this
        replace hT := hT.1 hl
        unfold OpSteps
        simp [go_sem, evS, f2]
        exact ⟨fun _ => by simp [sput], kpwb h1, kpwb h2, kpwb h3, kpwb h4, kpwb h5, kpwb h6, kpwb h7, kpwb h8, kpwb h9, kpwb h10, kpwb h11, kpwb h12, kpwb h13, kpwb h14, kpwb h15, kpwb h16, kpwb h17, fun h => by have := x0 (by simpa [did] using h); simp [did, this], fun h => by have := x1 (by simpa [did] using h); simp [did, this], fun h => by have := x2 (by simpa [did] using h); simp [did, this], fun h => by have := x3 (by simpa [did] using h); simp [did, this], fun h => by have := x4 (by simpa [did] using h); simp [did, this], fun h => by have := x5 (by simpa [did] using h); simp [did, this], fun h => by have := x6 (by simpa [did] using h); simp [did, this], fun h => by have := x7 (by simpa [did] using h); simp [did, this], fun h => by have := x8 (by simpa [did] using h); simp [did, this], fun h => by have := x9 (by simpa [did] using h); simp [did, this], fun h => by have := x10 (by simpa [did] using h); simp [did, this], ⟨fun _ => hT, fun h => by simp [did, hl] at h⟩⟩
    · as_aux_lemma =>
        have hl : d 17 = false := by
          cases h : d 17
          · rfl
          · have := x10 h; simp [hd] at this
        replace hT := hT.1 hl
        have g0 := h0 (by simp [hdep])
        unfold OpSteps
        obtain ⟨p0, p1, p2, p3, p4, p5, p6, p7, p8, p9, p10, p11, p12, p13, p14, p15, p16, p17, p18⟩ := cells19 (HZ1.out.below hT HZ1.out.lt)
        simp [go_sem, evS, g0, p0, p1, p2, p3, p4, p5, p6, p7, p8, p9, p10, p11, p12, p13, p14, p15, p16, p17, p18]
        exact ⟨kpwb h0, fun _ => by simp [sput], kpwb h2, kpwb h3, kpwb h4, kpwb h5, kpwb h6, kpwb h7, kpwb h8, kpwb h9, kpwb h10, kpwb h11, kpwb h12, kpwb h13, kpwb h14, kpwb h15, kpwb h16, kpwb h17, fun _ => by simp [did, hdep], fun h => by have := x1 (by simpa [did] using h); simp [did, this], fun h => by have := x2 (by simpa [did] using h); simp [did, this], fun h => by have := x3 (by simpa [did] using h); simp [did, this], fun h => by have := x4 (by simpa [did] using h); simp [did, this], fun h => by have := x5 (by simpa [did] using h); simp [did, this], fun h => by have := x6 (by simpa [did] using h); simp [did, this], fun h => by have := x7 (by simpa [did] using h); simp [did, this], fun h => by have := x8 (by simpa [did] using h); simp [did, this], fun h => by have := x9 (by simpa [did] using h); simp [did, this], fun h => by have := x10 (by simpa [did] using h); simp [did, this], ⟨fun _ => hT, fun h => by simp [did, hl] at h⟩⟩
    · as_aux_lemma =>
        have hl : d 17 = false := by
          cases h : d 17
          · rfl
          · have := x10 h; simp [hd] at this
        replace hT := hT.1 hl
        unfold OpSteps
        simp [go_sem, evS, f2]
        exact ⟨kpwb h0, kpwb h1, fun _ => by simp [sput], kpwb h3, kpwb h4, kpwb h5, kpwb h6, kpwb h7, kpwb h8, kpwb h9, kpwb h10, kpwb h11, kpwb h12, kpwb h13, kpwb h14, kpwb h15, kpwb h16, kpwb h17, fun h => by have := x0 (by simpa [did] using h); simp [did, this], fun h => by have := x1 (by simpa [did] using h); simp [did, this], fun h => by have := x2 (by simpa [did] using h); simp [did, this], fun h => by have := x3 (by simpa [did] using h); simp [did, this], fun h => by have := x4 (by simpa [did] using h); simp [did, this], fun h => by have := x5 (by simpa [did] using h); simp [did, this], fun h => by have := x6 (by simpa [did] using h); simp [did, this], fun h => by have := x7 (by simpa [did] using h); simp [did, this], fun h => by have := x8 (by simpa [did] using h); simp [did, this], fun h => by have := x9 (by simpa [did] using h); simp [did, this], fun h => by have := x10 (by simpa [did] using h); simp [did, this], ⟨fun _ => hT, fun h => by simp [did, hl] at h⟩⟩
    · as_aux_lemma =>
        have hl : d 17 = false := by
          cases h : d 17
          · rfl
          · have := x10 h; simp [hd] at this
        replace hT := hT.1 hl
        have g2 := h2 (by simp [hdep])
        unfold OpSteps
        obtain ⟨p0, p1, p2, p3, p4, p5, p6, p7, p8, p9, p10, p11, p12, p13, p14, p15, p16, p17, p18⟩ := cells19 (HZ1.out.below hT HZ1.out.lt)
        simp [go_sem, evS, g2, p0, p1, p2, p3, p4, p5, p6, p7, p8, p9, p10, p11, p12, p13, p14, p15, p16, p17, p18]
        exact ⟨kpwb h0, kpwb h1, kpwb h2, fun _ => by simp [sput], kpwb h4, kpwb h5, kpwb h6, kpwb h7, kpwb h8, kpwb h9, kpwb h10, kpwb h11, kpwb h12, kpwb h13, kpwb h14, kpwb h15, kpwb h16, kpwb h17, fun h => by have := x0 (by simpa [did] using h); simp [did, this], fun _ => by simp [did, hdep], fun h => by have := x2 (by simpa [did] using h); simp [did, this], fun h => by have := x3 (by simpa [did] using h); simp [did, this], fun h => by have := x4 (by simpa [did] using h); simp [did, this], fun h => by have := x5 (by simpa [did] using h); simp [did, this], fun h => by have := x6 (by simpa [did] using h); simp [did, this], fun h => by have := x7 (by simpa [did] using h); simp [did, this], fun h => by have := x8 (by simpa [did] using h); simp [did, this], fun h => by have := x9 (by simpa [did] using h); simp [did, this], fun h => by have := x10 (by simpa [did] using h); simp [did, this], ⟨fun _ => hT, fun h => by simp [did, hl] at h⟩⟩
    · as_aux_lemma =>
        have hl : d 17 = false := by
          cases h : d 17
          · rfl
          · have := x10 h; simp [hd] at this
        replace hT := hT.1 hl
        unfold OpSteps
        simp [go_sem, evS, f2]
        exact ⟨kpwb h0, kpwb h1, kpwb h2, kpwb h3, fun _ => by simp [sput], kpwb h5, kpwb h6, kpwb h7, kpwb h8, kpwb h9, kpwb h10, kpwb h11, kpwb h12, kpwb h13, kpwb h14, kpwb h15, kpwb h16, kpwb h17, fun h => by have := x0 (by simpa [did] using h); simp [did, this], fun h => by have := x1 (by simpa [did] using h); simp [did, this], fun h => by have := x2 (by simpa [did] using h); simp [did, this], fun h => by have := x3 (by simpa [did] using h); simp [did, this], fun h => by have := x4 (by simpa [did] using h); simp [did, this], fun h => by have := x5 (by simpa [did] using h); simp [did, this], fun h => by have := x6 (by simpa [did] using h); simp [did, this], fun h => by have := x7 (by simpa [did] using h); simp [did, this], fun h => by have := x8 (by simpa [did] using h); simp [did, this], fun h => by have := x9 (by simpa [did] using h); simp [did, this], fun h => by have := x10 (by simpa [did] using h); simp [did, this], ⟨fun _ => hT, fun h => by simp [did, hl] at h⟩⟩
    · as_aux_lemma =>
        have hl : d 17 = false := by
          cases h : d 17
          · rfl
          · have := x10 h; simp [hd] at this
        replace hT := hT.1 hl
        have g4 := h4 (by simp [hdep])
        unfold OpSteps
        simp [go_sem, evS, g4]
        exact ⟨kpwb h0, kpwb h1, kpwb h2, kpwb h3, kpwb h4, fun _ => by simp [sput], kpwb h6, kpwb h7, kpwb h8, kpwb h9, kpwb h10, kpwb h11, kpwb h12, kpwb h13, kpwb h14, kpwb h15, kpwb h16, kpwb h17, fun h => by have := x0 (by simpa [did] using h); simp [did, this], fun h => by have := x1 (by simpa [did] using h); simp [did, this], fun _ => by simp [did, hdep], fun h => by have := x3 (by simpa [did] using h); simp [did, this], fun h => by have := x4 (by simpa [did] using h); simp [did, this], fun h => by have := x5 (by simpa [did] using h); simp [did, this], fun h => by have := x6 (by simpa [did] using h); simp [did, this], fun h => by have := x7 (by simpa [did] using h); simp [did, this], fun h => by have := x8 (by simpa [did] using h); simp [did, this], fun h => by have := x9 (by simpa [did] using h); simp [did, this], fun h => by have := x10 (by simpa [did] using h); simp [did, this], ⟨fun _ => hT, fun h => by simp [did, hl] at h⟩⟩
    · as_aux_lemma =>
        have hl : d 17 = false := by
          cases h : d 17
          · rfl
          · have := x10 h; simp [hd] at this
        replace hT := hT.1 hl
        have g5 := h5 (by simp [hdep])
        unfold OpSteps
        obtain ⟨p0, p1, p2, p3, p4, p5, p6, p7, p8, p9, p10, p11, p12, p13, p14, p15, p16, p17, p18⟩ := cells19 (HZ1.out.below hT HZ1.out.lt)
        simp [go_sem, evS, g5, p0, p1, p2, p3, p4, p5, p6, p7, p8, p9, p10, p11, p12, p13, p14, p15, p16, p17, p18]
        exact ⟨kpwb h0, kpwb h1, kpwb h2, kpwb h3, kpwb h4, kpwb h5, fun _ => by simp [sput], kpwb h7, kpwb h8, kpwb h9, kpwb h10, kpwb h11, kpwb h12, kpwb h13, kpwb h14, kpwb h15, kpwb h16, kpwb h17, fun h => by have := x0 (by simpa [did] using h); simp [did, this], fun h => by have := x1 (by simpa [did] using h); simp [did, this], fun h => by have := x2 (by simpa [did] using h); simp [did, this], fun _ => by have y5 := x2 (by simp [hdep]); simp [did, hdep, y5], fun h => by have := x4 (by simpa [did] using h); simp [did, this], fun h => by have := x5 (by simpa [did] using h); simp [did, this], fun h => by have := x6 (by simpa [did] using h); simp [did, this], fun h => by have := x7 (by simpa [did] using h); simp [did, this], fun h => by have := x8 (by simpa [did] using h); simp [did, this], fun h => by have := x9 (by simpa [did] using h); simp [did, this], fun h => by have := x10 (by simpa [did] using h); simp [did, this], ⟨fun _ => hT, fun h => by simp [did, hl] at h⟩⟩
    · as_aux_lemma =>
        have hl : d 17 = false := by
          cases h : d 17
          · rfl
          · have := x10 h; simp [hd] at this
        replace hT := hT.1 hl
        have g3 := h3 (by simp [hdep])
        have g6 := h6 (by simp [hdep])
        unfold OpSteps
        simp [go_sem, evS, g3, g6]
        refine (HPx.out W).mono ?_
        rintro e W' ⟨rfl, hb⟩
        refine ⟨_, rfl, ?_⟩
        exact ⟨kpwb h0, kpwb h1, kpwb h2, kpwb h3, kpwb h4, kpwb h5, kpwb h6, fun _ => by simp [sput], kpwb h8, kpwb h9, kpwb h10, kpwb h11, kpwb h12, kpwb h13, kpwb h14, kpwb h15, kpwb h16, kpwb h17, fun h => by have := x0 (by simpa [did] using h); simp [did, this], fun h => by have := x1 (by simpa [did] using h); simp [did, this], fun h => by have := x2 (by simpa [did] using h); simp [did, this], fun h => by have := x3 (by simpa [did] using h); simp [did, this], fun _ => by have y3 := x1 (by simp [hdep]); have y6 := x3 (by simp [hdep]); simp [did, hdep, y3, y6], fun h => by have := x5 (by simpa [did] using h); simp [did, this], fun h => by have := x6 (by simpa [did] using h); simp [did, this], fun h => by have := x7 (by simpa [did] using h); simp [did, this], fun h => by have := x8 (by simpa [did] using h); simp [did, this], fun h => by have := x9 (by simpa [did] using h); simp [did, this], fun h => by have := x10 (by simpa [did] using h); simp [did, this], ⟨fun _ => below_nx hT hb, fun h => by simp [did, hl] at h⟩⟩
    · as_aux_lemma =>
        have hl : d 17 = false := by
          cases h : d 17
          · rfl
          · have := x10 h; simp [hd] at this
        replace hT := hT.1 hl
        unfold OpSteps
        simp [go_sem, evS, f2]
        exact ⟨kpwb h0, kpwb h1, kpwb h2, kpwb h3, kpwb h4, kpwb h5, kpwb h6, kpwb h7, fun _ => by simp [sput], kpwb h9, kpwb h10, kpwb h11, kpwb h12, kpwb h13, kpwb h14, kpwb h15, kpwb h16, kpwb h17, fun h => by have := x0 (by simpa [did] using h); simp [did, this], fun h => by have := x1 (by simpa [did] using h); simp [did, this], fun h => by have := x2 (by simpa [did] using h); simp [did, this], fun h => by have := x3 (by simpa [did] using h); simp [did, this], fun h => by have := x4 (by simpa [did] using h); simp [did, this], fun h => by have := x5 (by simpa [did] using h); simp [did, this], fun h => by have := x6 (by simpa [did] using h); simp [did, this], fun h => by have := x7 (by simpa [did] using h); simp [did, this], fun h => by have := x8 (by simpa [did] using h); simp [did, this], fun h => by have := x9 (by simpa [did] using h); simp [did, this], fun h => by have := x10 (by simpa [did] using h); simp [did, this], ⟨fun _ => hT, fun h => by simp [did, hl] at h⟩⟩
    · as_aux_lemma =>
        have hl : d 17 = false := by
          cases h : d 17
          · rfl
          · have := x10 h; simp [hd] at this
        replace hT := hT.1 hl
        have g8 := h8 (by simp [hdep])
        unfold OpSteps
        obtain ⟨p0, p1, p2, p3, p4, p5, p6, p7, p8, p9, p10, p11, p12, p13, p14, p15, p16, p17, p18⟩ := cells19 (HZ1.out.below hT HZ1.out.lt)
        simp [go_sem, evS, g8, p0, p1, p2, p3, p4, p5, p6, p7, p8, p9, p10, p11, p12, p13, p14, p15, p16, p17, p18]
        exact ⟨kpwb h0, kpwb h1, kpwb h2, kpwb h3, kpwb h4, kpwb h5, kpwb h6, kpwb h7, kpwb h8, fun _ => by simp [sput], kpwb h10, kpwb h11, kpwb h12, kpwb h13, kpwb h14, kpwb h15, kpwb h16, kpwb h17, fun h => by have := x0 (by simpa [did] using h); simp [did, this], fun h => by have := x1 (by simpa [did] using h); simp [did, this], fun h => by have := x2 (by simpa [did] using h); simp [did, this], fun h => by have := x3 (by simpa [did] using h); simp [did, this], fun h => by have := x4 (by simpa [did] using h); simp [did, this], fun _ => by simp [did, hdep], fun h => by have := x6 (by simpa [did] using h); simp [did, this], fun h => by have := x7 (by simpa [did] using h); simp [did, this], fun h => by have := x8 (by simpa [did] using h); simp [did, this], fun h => by have := x9 (by simpa [did] using h); simp [did, this], fun h => by have := x10 (by simpa [did] using h); simp [did, this], ⟨fun _ => hT, fun h => by simp [did, hl] at h⟩⟩
    · as_aux_lemma =>
        have hl : d 17 = false := by
          cases h : d 17
          · rfl
          · have := x10 h; simp [hd] at this
        replace hT := hT.1 hl
        unfold OpSteps
        simp [go_sem, evS, f2]
        exact ⟨kpwb h0, kpwb h1, kpwb h2, kpwb h3, kpwb h4, kpwb h5, kpwb h6, kpwb h7, kpwb h8, kpwb h9, fun _ => by simp [sput], kpwb h11, kpwb h12, kpwb h13, kpwb h14, kpwb h15, kpwb h16, kpwb h17, fun h => by have := x0 (by simpa [did] using h); simp [did, this], fun h => by have := x1 (by simpa [did] using h); simp [did, this], fun h => by have := x2 (by simpa [did] using h); simp [did, this], fun h => by have := x3 (by simpa [did] using h); simp [did, this], fun h => by have := x4 (by simpa [did] using h); simp [did, this], fun h => by have := x5 (by simpa [did] using h); simp [did, this], fun h => by have := x6 (by simpa [did] using h); simp [did, this], fun h => by have := x7 (by simpa [did] using h); simp [did, this], fun h => by have := x8 (by simpa [did] using h); simp [did, this], fun h => by have := x9 (by simpa [did] using h); simp [did, this], fun h => by have := x10 (by simpa [did] using h); simp [did, this], ⟨fun _ => hT, fun h => by simp [did, hl] at h⟩⟩
    · as_aux_lemma =>
        have hl : d 17 = false := by
          cases h : d 17
          · rfl
          · have := x10 h; simp [hd] at this
        replace hT := hT.1 hl
        have g10 := h10 (by simp [hdep])
        unfold OpSteps
        simp [go_sem, evS, g10]
        exact ⟨kpwb h0, kpwb h1, kpwb h2, kpwb h3, kpwb h4, kpwb h5, kpwb h6, kpwb h7, kpwb h8, kpwb h9, kpwb h10, fun _ => by simp [sput], kpwb h12, kpwb h13, kpwb h14, kpwb h15, kpwb h16, kpwb h17, fun h => by have := x0 (by simpa [did] using h); simp [did, this], fun h => by have := x1 (by simpa [did] using h); simp [did, this], fun h => by have := x2 (by simpa [did] using h); simp [did, this], fun h => by have := x3 (by simpa [did] using h); simp [did, this], fun h => by have := x4 (by simpa [did] using h); simp [did, this], fun h => by have := x5 (by simpa [did] using h); simp [did, this], fun _ => by simp [did, hdep], fun h => by have := x7 (by simpa [did] using h); simp [did, this], fun h => by have := x8 (by simpa [did] using h); simp [did, this], fun h => by have := x9 (by simpa [did] using h); simp [did, this], fun h => by have := x10 (by simpa [did] using h); simp [did, this], ⟨fun _ => hT, fun h => by simp [did, hl] at h⟩⟩
    · as_aux_lemma =>
        have hl : d 17 = false := by
          cases h : d 17
          · rfl
          · have := x10 h; simp [hd] at this
        replace hT := hT.1 hl
        have g11 := h11 (by simp [hdep])
        unfold OpSteps
        obtain ⟨p0, p1, p2, p3, p4, p5, p6, p7, p8, p9, p10, p11, p12, p13, p14, p15, p16, p17, p18⟩ := cells19 (HZ1.out.below hT HZ1.out.lt)
        simp [go_sem, evS, g11, p0, p1, p2, p3, p4, p5, p6, p7, p8, p9, p10, p11, p12, p13, p14, p15, p16, p17, p18]
        exact ⟨kpwb h0, kpwb h1, kpwb h2, kpwb h3, kpwb h4, kpwb h5, kpwb h6, kpwb h7, kpwb h8, kpwb h9, kpwb h10, kpwb h11, fun _ => by simp [sput], kpwb h13, kpwb h14, kpwb h15, kpwb h16, kpwb h17, fun h => by have := x0 (by simpa [did] using h); simp [did, this], fun h => by have := x1 (by simpa [did] using h); simp [did, this], fun h => by have := x2 (by simpa [did] using h); simp [did, this], fun h => by have := x3 (by simpa [did] using h); simp [did, this], fun h => by have := x4 (by simpa [did] using h); simp [did, this], fun h => by have := x5 (by simpa [did] using h); simp [did, this], fun h => by have := x6 (by simpa [did] using h); simp [did, this], fun _ => by have y11 := x6 (by simp [hdep]); simp [did, hdep, y11], fun h => by have := x8 (by simpa [did] using h); simp [did, this], fun h => by have := x9 (by simpa [did] using h); simp [did, this], fun h => by have := x10 (by simpa [did] using h); simp [did, this], ⟨fun _ => hT, fun h => by simp [did, hl] at h⟩⟩
    · as_aux_lemma =>
        have hl : d 17 = false := by
          cases h : d 17
          · rfl
          · have := x10 h; simp [hd] at this
        replace hT := hT.1 hl
        have g9 := h9 (by simp [hdep])
        have g12 := h12 (by simp [hdep])
        unfold OpSteps
        simp [go_sem, evS, g9, g12]
        refine (HPy.out W).mono ?_
        rintro e W' ⟨rfl, hb⟩
        refine ⟨_, rfl, ?_⟩
        exact ⟨kpwb h0, kpwb h1, kpwb h2, kpwb h3, kpwb h4, kpwb h5, kpwb h6, kpwb h7, kpwb h8, kpwb h9, kpwb h10, kpwb h11, kpwb h12, fun _ => by simp [sput], kpwb h14, kpwb h15, kpwb h16, kpwb h17, fun h => by have := x0 (by simpa [did] using h); simp [did, this], fun h => by have := x1 (by simpa [did] using h); simp [did, this], fun h => by have := x2 (by simpa [did] using h); simp [did, this], fun h => by have := x3 (by simpa [did] using h); simp [did, this], fun h => by have := x4 (by simpa [did] using h); simp [did, this], fun h => by have := x5 (by simpa [did] using h); simp [did, this], fun h => by have := x6 (by simpa [did] using h); simp [did, this], fun h => by have := x7 (by simpa [did] using h); simp [did, this], fun _ => by have y9 := x5 (by simp [hdep]); have y12 := x7 (by simp [hdep]); simp [did, hdep, y9, y12], fun h => by have := x9 (by simpa [did] using h); simp [did, this], fun h => by have := x10 (by simpa [did] using h); simp [did, this], ⟨fun _ => below_nx hT hb, fun h => by simp [did, hl] at h⟩⟩
    · as_aux_lemma =>
        have hl : d 17 = false := by
          cases h : d 17
          · rfl
          · have := x10 h; simp [hd] at this
        replace hT := hT.1 hl
        unfold OpSteps
        simp [go_sem, evS, f1]
        exact ⟨kpwb h0, kpwb h1, kpwb h2, kpwb h3, kpwb h4, kpwb h5, kpwb h6, kpwb h7, kpwb h8, kpwb h9, kpwb h10, kpwb h11, kpwb h12, kpwb h13, fun _ => by simp [sput], kpwb h15, kpwb h16, kpwb h17, fun h => by have := x0 (by simpa [did] using h); simp [did, this], fun h => by have := x1 (by simpa [did] using h); simp [did, this], fun h => by have := x2 (by simpa [did] using h); simp [did, this], fun h => by have := x3 (by simpa [did] using h); simp [did, this], fun h => by have := x4 (by simpa [did] using h); simp [did, this], fun h => by have := x5 (by simpa [did] using h); simp [did, this], fun h => by have := x6 (by simpa [did] using h); simp [did, this], fun h => by have := x7 (by simpa [did] using h); simp [did, this], fun h => by have := x8 (by simpa [did] using h); simp [did, this], fun h => by have := x9 (by simpa [did] using h); simp [did, this], fun h => by have := x10 (by simpa [did] using h); simp [did, this], ⟨fun _ => hT, fun h => by simp [did, hl] at h⟩⟩
    · as_aux_lemma =>
        have hl : d 17 = false := by
          cases h : d 17
          · rfl
          · have := x10 h; simp [hd] at this
        replace hT := hT.1 hl
        unfold OpSteps
        simp [go_sem, evS, f2]
        exact ⟨kpwb h0, kpwb h1, kpwb h2, kpwb h3, kpwb h4, kpwb h5, kpwb h6, kpwb h7, kpwb h8, kpwb h9, kpwb h10, kpwb h11, kpwb h12, kpwb h13, kpwb h14, fun _ => by simp [sput], kpwb h16, kpwb h17, fun h => by have := x0 (by simpa [did] using h); simp [did, this], fun h => by have := x1 (by simpa [did] using h); simp [did, this], fun h => by have := x2 (by simpa [did] using h); simp [did, this], fun h => by have := x3 (by simpa [did] using h); simp [did, this], fun h => by have := x4 (by simpa [did] using h); simp [did, this], fun h => by have := x5 (by simpa [did] using h); simp [did, this], fun h => by have := x6 (by simpa [did] using h); simp [did, this], fun h => by have := x7 (by simpa [did] using h); simp [did, this], fun h => by have := x8 (by simpa [did] using h); simp [did, this], fun h => by have := x9 (by simpa [did] using h); simp [did, this], fun h => by have := x10 (by simpa [did] using h); simp [did, this], ⟨fun _ => hT, fun h => by simp [did, hl] at h⟩⟩
    · as_aux_lemma =>
        have hl : d 17 = false := by
          cases h : d 17
          · rfl
          · have := x10 h; simp [hd] at this
        replace hT := hT.1 hl
        have g15 := h15 (by simp [hdep])
        unfold OpSteps
        obtain ⟨p0, p1, p2, p3, p4, p5, p6, p7, p8, p9, p10, p11, p12, p13, p14, p15, p16, p17, p18⟩ := cells19 (HZ1.out.below hT HZ1.out.lt)
        simp [go_sem, evS, g15, p0, p1, p2, p3, p4, p5, p6, p7, p8, p9, p10, p11, p12, p13, p14, p15, p16, p17, p18]
        exact ⟨kpwb h0, kpwb h1, kpwb h2, kpwb h3, kpwb h4, kpwb h5, kpwb h6, kpwb h7, kpwb h8, kpwb h9, kpwb h10, kpwb h11, kpwb h12, kpwb h13, kpwb h14, kpwb h15, fun _ => by simp [sput], kpwb h17, fun h => by have := x0 (by simpa [did] using h); simp [did, this], fun h => by have := x1 (by simpa [did] using h); simp [did, this], fun h => by have := x2 (by simpa [did] using h); simp [did, this], fun h => by have := x3 (by simpa [did] using h); simp [did, this], fun h => by have := x4 (by simpa [did] using h); simp [did, this], fun h => by have := x5 (by simpa [did] using h); simp [did, this], fun h => by have := x6 (by simpa [did] using h); simp [did, this], fun h => by have := x7 (by simpa [did] using h); simp [did, this], fun h => by have := x8 (by simpa [did] using h); simp [did, this], fun _ => by simp [did, hdep], fun h => by have := x10 (by simpa [did] using h); simp [did, this], ⟨fun _ => hT, fun h => by simp [did, hl] at h⟩⟩
    · as_aux_lemma =>
        have g1 := h1 (by simp [hdep])
        have g7 := h7 (by simp [hdep])
        have g13 := h13 (by simp [hdep])
        have g14 := h14 (by simp [hdep])
        have g16 := h16 (by simp [hdep])
        unfold OpSteps
        have hT0 := hT.1 hd
        simp [go_sem, evS, g1, g7, g13, g14, g16]
        refine (HMu.out W hT0).mono ?_
        rintro e W' ⟨rfl, hD9⟩
        refine ⟨_, rfl, ?_⟩
        exact ⟨kpwb h0, kpwb h1, kpwb h2, kpwb h3, kpwb h4, kpwb h5, kpwb h6, kpwb h7, kpwb h8, kpwb h9, kpwb h10, kpwb h11, kpwb h12, kpwb h13, kpwb h14, kpwb h15, kpwb h16, fun _ => by simp [sput], fun h => by have := x0 (by simpa [did] using h); simp [did, this], fun h => by have := x1 (by simpa [did] using h); simp [did, this], fun h => by have := x2 (by simpa [did] using h); simp [did, this], fun h => by have := x3 (by simpa [did] using h); simp [did, this], fun h => by have := x4 (by simpa [did] using h); simp [did, this], fun h => by have := x5 (by simpa [did] using h); simp [did, this], fun h => by have := x6 (by simpa [did] using h); simp [did, this], fun h => by have := x7 (by simpa [did] using h); simp [did, this], fun h => by have := x8 (by simpa [did] using h); simp [did, this], fun h => by have := x9 (by simpa [did] using h); simp [did, this], fun _ => by have y1 := x0 (by simp [hdep]); have y7 := x4 (by simp [hdep]); have y13 := x8 (by simp [hdep]); have y16 := x9 (by simp [hdep]); simp [did, hdep, y1, y7, y13, y16], ⟨fun h => by simp [did] at h, fun _ => hD9⟩⟩
  intro d s W hJ hd
  obtain ⟨h0, h1, h2, h3, h4, h5, h6, h7, h8, h9, h10, h11, h12, h13, h14, h15, h16, h17, x0, x1, x2, x3, x4, x5, x6, x7, x8, x9, x10, hT⟩ := hJ
  have HQ9 := Lib.hid (hT.2 (hd 17 (by decide)))
  clear h0 h1 h2 h3 h4 h5 h6 h7 h8 h9 h10 h11 h12 h13 h14 h15 h16 h17 x0 x1 x2 x3 x4 x5 x6 x7 x8 x9 x10 hT hd
  simp [setAll]
  generalize s 4 = s4
  generalize s 5 = s5
  generalize s 6 = s6
  generalize s 7 = s7
  generalize s 8 = s8
  generalize s 9 = s9
  generalize s 10 = s10
  generalize s 11 = s11
  generalize s 12 = s12
  generalize s 13 = s13
  generalize s 14 = s14
  generalize s 15 = s15
  generalize s 16 = s16
  generalize s 17 = s17
  generalize s 18 = s18
  generalize s 19 = s19
  generalize s 20 = s20
  generalize s 21 = s21
  generalize W = w9 at *
  go_wp2_with fail
  go_end0
  exact ⟨rfl, HQ9.out⟩

/-- A block of a right matrix. -/
theorem bkpart_nat (A : Option Addr) (n c o R C L i0 rn j0 cn : Nat) (hn : n < 1048576) (hoI : I64 o) (hLI : I64 L) (hRb : R < 1048576) (hCb : C < 1048576) (hL1 : 1 ≤ L) (hRL : R ≤ L) (hr : R = 0 ∨ C = 0 ∨ o + (C - 1) * L + (R - 1) < n) (h1 : 1 ≤ rn) (h2 : 1 ≤ cn) (h3 : i0 + rn ≤ R) (h4 : j0 + cn ≤ C) (w : World) :
    Calls Try.prog 36 #[mat A n c o R C L, .agg #[.int .i64 (i0 : Int), .int .i64 (rn : Int)], .agg #[.int .i64 (j0 : Int), .int .i64 (cn : Int)]] w fun e w' => e = .returned (mat A n c (o + i0 + j0 * L : Nat) rn cn L) ∧ Below w.heap.size w w' := by
  have hm := mat_right hL1 hRL hr
  have e : partOff (o : Int) (L : Int) (i0 : Int) (j0 : Int) (rn : Int) (cn : Int) = ((o + i0 + j0 * L : Nat) : Int) := by
    unfold partOff
    rw [if_neg (by omega)]
    simp
  refine bkpart_any A n c o R C L i0 j0 rn cn _ w fun W => ?_
  have h := part_some A n c o R C L i0 j0 rn cn W (by omega) hoI (by unfold I64; omega) (by unfold I64; omega) hLI (by unfold I64; omega) (by unfold I64; omega) (by unfold I64; omega) (by unfold I64; omega) (by
    unfold partB fitsB
    rw [hm]
    simp
    omega)
  rw [e] at h
  exact h
theorem bkpart_cols (A : Option Addr) (n c o R C L : Nat) (hn : n < 1048576) (hoI : I64 o) (hLI : I64 L) (hRb : R < 1048576) (hCb : C < 1048576) (hL1 : 1 ≤ L) (hRL : R ≤ L) (hr : R = 0 ∨ C = 0 ∨ o + (C - 1) * L + (R - 1) < n) (w : World) :
    Calls Try.prog 34 #[mat A n c o R C L, .int .i64 0, .int .i64 0, .int .i64 R, .int .i64 0] w fun e w' => e = .returned (mat A n c o R 0 L) ∧ Below w.heap.size w w' := by
  have h := part_some A n c o R C L 0 0 R 0 w (by omega) hoI (by unfold I64; omega) (by unfold I64; omega) hLI (by unfold I64; omega) (by unfold I64; omega) (by unfold I64; omega) (by unfold I64; omega) (by
    unfold partB fitsB
    rw [mat_right hL1 hRL hr]
    simp)
  have e : partOff (o : Int) (L : Int) 0 0 (R : Int) 0 = (o : Int) := by
    unfold partOff
    rw [if_pos (.inr rfl)]
  rw [e] at h
  exact h
theorem bkpart_rows (A : Option Addr) (n c o R C L : Nat) (hn : n < 1048576) (hoI : I64 o) (hLI : I64 L) (hRb : R < 1048576) (hCb : C < 1048576) (hL1 : 1 ≤ L) (hRL : R ≤ L) (hr : R = 0 ∨ C = 0 ∨ o + (C - 1) * L + (R - 1) < n) (w : World) :
    Calls Try.prog 34 #[mat A n c o R C L, .int .i64 0, .int .i64 0, .int .i64 0, .int .i64 C] w fun e w' => e = .returned (mat A n c o 0 C L) ∧ Below w.heap.size w w' := by
  have h := part_some A n c o R C L 0 0 0 C w (by omega) hoI (by unfold I64; omega) (by unfold I64; omega) hLI (by unfold I64; omega) (by unfold I64; omega) (by unfold I64; omega) (by unfold I64; omega) (by
    unfold partB fitsB
    rw [mat_right hL1 hRL hr]
    simp)
  have e : partOff (o : Int) (L : Int) 0 0 0 (C : Int) = (o : Int) := by
    unfold partOff
    rw [if_pos (.inl rfl)]
  rw [e] at h
  exact h
end Go.Proofs.Ytbeefnekblepfaa
