/-
BlockTells, an error. Conditions: as each says.
-/
import Derived.Test.YtbeefnekblepfaaUbac
import Derived.Test.YtbeefnekblepfaaZBkH
import Derived.Test.YtbeefnekblepfaaUbad
set_option linter.unusedVariables false
set_option linter.unusedSimpArgs false
set_option linter.unnecessarySimpa false
namespace Go.Proofs.Ytbeefnekblepfaa
open Go.RowKit
attribute [local go_sem ↓] Go.wp_at_zero Go.wp_at_succ

set_option maxRecDepth 100000 in
set_option maxHeartbeats 4000000 in
theorem blockTells_err2 (s1 s2 s3 : Int) (a b : Nat) (Ax : Option Addr) (nx cx : Nat) (lx : List Nat) (xo xr xk xl : Int) (Ay : Option Addr) (ny cy : Nat) (ly : List Nat) (yo yr yk yl : Int) (Am : Option Addr) (nm cm : Nat) (lm : List Nat) (mo mr mk ml : Int) (E k : Int) (rt : Bool) (w : World) (hAx : Row w Ax (f64s lx)) (hAy : Row w Ay (f64s ly)) (hAm : Row w Am (f64s lm)) (hWx : Wds lx) (hWy : Wds ly) (hWm : Wds lm) (hlx : lx.length = nx) (hly : ly.length = ny) (hlm : lm.length = nm) (hnx : nx ≤ 1000) (hny : ny ≤ 1000) (hnm : nm ≤ 1000) (hG : (greatB nx xr xk || greatB ny yr yk || greatB nm mr mk) = false) (hn0 : 0 < nm) (hrt : sizB s1 s2 s3 = rt) (hE : E ≠ 0) (hk : rt = true → k = E) (hk2 : rt = false → E = 1) (hPr : ∀ W (g cg gx cx9 : Nat) (h1 : gx ≠ g) (hO : Own W g lm) (hX : Own W gx lx) , Calls Try.prog 9 #[.agg #[.int .i64 s1, .int .i64 s2, .int .i64 s3], .float .f64 a, mat (some ⟨gx, 0, none⟩) nx cx9 xo xr xk xl, mat (some ⟨g, 0, none⟩) nm cg yo yr yk yl, .float .f64 b, mat (some ⟨g, 0, none⟩) nm cg mo mr mk ml] W fun e w' => e = .returned (.int .i64 E) ∧ Below W.heap.size W w') (hCk : ∀ W, Calls Try.prog 10 #[mat Ax nx cx xo xr xk xl, mat Am nm cm yo yr yk yl, mat Am nm cm mo mr mk ml, .int .i64 2] W fun e w' => e = .returned (.int .i64 k) ∧ Below W.heap.size W w') :
    Calls Try.prog 3 #[.agg #[.int .i64 s1, .int .i64 s2, .int .i64 s3], .float .f64 a, mat Ax nx cx xo xr xk xl, mat Ay ny cy yo yr yk yl, .float .f64 b, mat Am nm cm mo mr mk ml, .int .i64 2] w fun e w' => e = .returned (.bool true) ∧ Below w.heap.size w w' := by
  have HGr := Lib.hid (fun W => bgreat_any Ax nx cx xo xr xk xl Ay ny cy yo yr yk yl Am nm cm mo mr mk ml W)
  rw [hG] at HGr
  have HRr := Lib.hid (fun W => rright13_any s1 s2 s3 W)
  have HRb := Lib.hid (fun W => bkright_any s1 s2 s3 W)
  rw [hrt] at HRr HRb
  have HCk := Lib.hid hCk
  have HApm := Lib.hid (apart_c Am nm cm lm mo mr mk ml w hAm hlm (by omega))
  have HApx := Lib.hid (apart_c Ax nx cx lx xo xr xk xl w hAx hlx (by omega))
  have HApy := Lib.hid (apart_c Am nm cm lm yo yr yk yl w hAm hlm (by omega))
  have HAllx := Lib.hid (all_c lx nx hWx hlx (by omega))
  have HAlly := Lib.hid (all_c lm nm hWm hlm (by omega))
  have HAllm := Lib.hid (all_c lm nm hWm hlm (by omega))
  have HPr := Lib.hid hPr
  have HAm := Lib.hid hAm
  have HAx := Lib.hid hAx
  have HAy := Lib.hid hAm
  have d1 : decide ((0 : Int) < (nm : Int)) = true := by simp; exact hn0
  have d2 : decide (0 < nm) = true := by simp; exact hn0
  have HK := Lib.hid (And.intro hE (And.intro hk hk2))
  clear hAx hAy hAm hWx hWy hWm hlx hly hlm hnx hny hnm hG hCk hrt hn0 hPr hE hk hk2
  unfold mat at *
  go_enter Try.func3, Try.ntmps3
  have Hj0 := Lib.hid ((((Blk.new w 22 #[.int .i64 s1, .int .i64 s2, .int .i64 s3]).alloc (.cells #[.slice Ax nx cx, .int .i64 xo, .int .i64 xr, .int .i64 xk, .int .i64 xl] 26)).alloc (.cells #[.slice Ay ny cy, .int .i64 yo, .int .i64 yr, .int .i64 yk, .int .i64 yl] 26)).alloc (.cells #[.slice Am nm cm, .int .i64 mo, .int .i64 mr, .int .i64 mk, .int .i64 ml] 26))
  have Hx0 := Lib.hid (((Blk.new_ (w.alloc (.cells #[.int .i64 s1, .int .i64 s2, .int .i64 s3] 22)) 26 #[.slice Ax nx cx, .int .i64 xo, .int .i64 xr, .int .i64 xk, .int .i64 xl] (w.heap.size + 1) (by simp)).alloc (.cells #[.slice Ay ny cy, .int .i64 yo, .int .i64 yr, .int .i64 yk, .int .i64 yl] 26)).alloc (.cells #[.slice Am nm cm, .int .i64 mo, .int .i64 mr, .int .i64 mk, .int .i64 ml] 26))
  have Hy0 := Lib.hid ((Blk.new_ ((w.alloc (.cells #[.int .i64 s1, .int .i64 s2, .int .i64 s3] 22)).alloc (.cells #[.slice Ax nx cx, .int .i64 xo, .int .i64 xr, .int .i64 xk, .int .i64 xl] 26)) 26 #[.slice Ay ny cy, .int .i64 yo, .int .i64 yr, .int .i64 yk, .int .i64 yl] (w.heap.size + 1 + 1) (by simp)).alloc (.cells #[.slice Am nm cm, .int .i64 mo, .int .i64 mr, .int .i64 mk, .int .i64 ml] 26))
  have Hm0 := Lib.hid (Blk.new_ (((w.alloc (.cells #[.int .i64 s1, .int .i64 s2, .int .i64 s3] 22)).alloc (.cells #[.slice Ax nx cx, .int .i64 xo, .int .i64 xr, .int .i64 xk, .int .i64 xl] 26)).alloc (.cells #[.slice Ay ny cy, .int .i64 yo, .int .i64 yr, .int .i64 yk, .int .i64 yl] 26)) 26 #[.slice Am nm cm, .int .i64 mo, .int .i64 mr, .int .i64 mk, .int .i64 ml] (w.heap.size + 1 + 1 + 1) (by simp))
  have HB0 := Lib.hid (((((Below.refl w.heap.size w).alloc (Nat.le_refl _) (.cells #[.int .i64 s1, .int .i64 s2, .int .i64 s3] 22)).alloc (by simp) (.cells #[.slice Ax nx cx, .int .i64 xo, .int .i64 xr, .int .i64 xk, .int .i64 xl] 26)).alloc (by simp; omega) (.cells #[.slice Ay ny cy, .int .i64 yo, .int .i64 yr, .int .i64 yk, .int .i64 yl] 26)).alloc (by simp; omega) (.cells #[.slice Am nm cm, .int .i64 mo, .int .i64 mr, .int .i64 mk, .int .i64 ml] 26))
  obtain ⟨j0, j1, j2⟩ := cells3v Hj0.out
  obtain ⟨x0, x1, x2, x3, x4⟩ := cells5 Hx0.out
  obtain ⟨y0, y1, y2, y3, y4⟩ := cells5 Hy0.out
  obtain ⟨m0, m1, m2, m3, m4⟩ := cells5 Hm0.out
  go_wp2_with fail
  refine (awake13_any _).mono ?_
  rintro e w1 ⟨rfl, hb⟩
  have Hj1 := Lib.hid (Hj0.out.nxt hb)
  have Hx1 := Lib.hid (Hx0.out.nxt hb)
  have Hy1 := Lib.hid (Hy0.out.nxt hb)
  have Hm1 := Lib.hid (Hm0.out.nxt hb)
  have HB1 := Lib.hid (below_nx HB0.out hb)
  clear hb
  clear j0 j1 j2 x0 x1 x2 x3 x4 y0 y1 y2 y3 y4 m0 m1 m2 m3 m4
  obtain ⟨j0, j1, j2⟩ := cells3v Hj1.out
  obtain ⟨x0, x1, x2, x3, x4⟩ := cells5 Hx1.out
  obtain ⟨y0, y1, y2, y3, y4⟩ := cells5 Hy1.out
  obtain ⟨m0, m1, m2, m3, m4⟩ := cells5 Hm1.out
  clear Hj0 Hx0 Hy0 Hm0 HB0
  go_wp2_with fail
  refine (HGr.out _).mono ?_
  rintro e w2 ⟨rfl, hb⟩
  have Hj2 := Lib.hid (Hj1.out.nxt hb)
  have Hx2 := Lib.hid (Hx1.out.nxt hb)
  have Hy2 := Lib.hid (Hy1.out.nxt hb)
  have Hm2 := Lib.hid (Hm1.out.nxt hb)
  have HB2 := Lib.hid (below_nx HB1.out hb)
  clear hb
  clear j0 j1 j2 x0 x1 x2 x3 x4 y0 y1 y2 y3 y4 m0 m1 m2 m3 m4
  obtain ⟨j0, j1, j2⟩ := cells3v Hj2.out
  obtain ⟨x0, x1, x2, x3, x4⟩ := cells5 Hx2.out
  obtain ⟨y0, y1, y2, y3, y4⟩ := cells5 Hy2.out
  obtain ⟨m0, m1, m2, m3, m4⟩ := cells5 Hm2.out
  clear Hj1 Hx1 Hy1 Hm1 HB1
  obtain ⟨f0, _, _, _, _⟩ := frozen5 Hy2.out
  go_upto_region 9 with fail
  have hb9 : Blk (w2.setCell ⟨w.heap.size + 1 + 1, 0, none⟩ (.slice Am nm cm)) (w.heap.size + 1 + 1) 26 #[.slice Am nm cm, .int .i64 yo, .int .i64 yr, .int .i64 yk, .int .i64 yl] := by simpa using Hy2.out.set_ 0 (.slice Am nm cm)
  have Hj3 := Lib.hid (Hj2.out.other (p := ⟨w.heap.size + 1 + 1, 0, none⟩) ((by first | (simp; done) | (simp; omega))) (.slice Am nm cm))
  have Hx3 := Lib.hid (Hx2.out.other (p := ⟨w.heap.size + 1 + 1, 0, none⟩) ((by first | (simp; done) | (simp; omega))) (.slice Am nm cm))
  have Hm3 := Lib.hid (Hm2.out.other (p := ⟨w.heap.size + 1 + 1, 0, none⟩) ((by first | (simp; done) | (simp; omega))) (.slice Am nm cm))
  have Hy3 := Lib.hid hb9
  have HB3 := Lib.hid (HB2.out.setCell (p := ⟨w.heap.size + 1 + 1, 0, none⟩) ((by first | (simp; done) | (simp; omega))) (.slice Am nm cm))
  clear j0 j1 j2 x0 x1 x2 x3 x4 y0 y1 y2 y3 y4 m0 m1 m2 m3 m4
  clear hb9 f0
  generalize (w2.setCell ⟨w.heap.size + 1 + 1, 0, none⟩ (.slice Am nm cm)) = w4b at *
  obtain ⟨j0, j1, j2⟩ := cells3v Hj3.out
  obtain ⟨x0, x1, x2, x3, x4⟩ := cells5 Hx3.out
  obtain ⟨y0, y1, y2, y3, y4⟩ := cells5 Hy3.out
  obtain ⟨m0, m1, m2, m3, m4⟩ := cells5 Hm3.out
  clear Hj2 Hx2 Hy2 Hm2 HB2
  first | go_wp2_with fail | skip
  refine wp_region_inv [52, 53, 54, 55, 56, 57, 15, 16, 17] (fun d s W => (d 0 = true → s 52 = .agg #[.slice Ax nx cx, .int .i64 xo, .int .i64 xr, .int .i64 xk, .int .i64 xl]) ∧ (d 1 = true → OwM W (s 53) w4b.heap.size lx nx xo xr xk xl) ∧ (d 2 = true → s 54 = .agg #[.slice Am nm cm, .int .i64 yo, .int .i64 yr, .int .i64 yk, .int .i64 yl]) ∧ (d 3 = true → OwM W (s 55) w4b.heap.size lm nm yo yr yk yl) ∧ (d 4 = true → s 56 = .agg #[.slice Am nm cm, .int .i64 mo, .int .i64 mr, .int .i64 mk, .int .i64 ml]) ∧ (d 5 = true → OwM W (s 57) w4b.heap.size lm nm mo mr mk ml) ∧ (d 6 = true → NbM W (s 15) w4b.heap.size) ∧ (d 7 = true → NbM W (s 16) w4b.heap.size) ∧ (d 8 = true → NbM W (s 17) w4b.heap.size) ∧ (d 9 = true → PqM W (s 15) (lb (s 53)) w4b.heap.size lx nx xo xr xk xl) ∧ (d 10 = true → PqM W (s 16) (lb (s 55)) w4b.heap.size lm nm yo yr yk yl) ∧ (d 11 = true → PqM W (s 17) (lb (s 57)) w4b.heap.size lm nm mo mr mk ml) ∧ (d 9 = true → d 6 = true) ∧ (d 10 = true → d 7 = true) ∧ (d 11 = true → d 8 = true) ∧ (d 6 = true → d 7 = true → s 15 ≠ s 16) ∧ (d 6 = true → d 8 = true → s 15 ≠ s 17) ∧ (d 7 = true → d 8 = true → s 16 ≠ s 17) ∧ (d 1 = true → d 3 = true → lb (s 53) ≠ lb (s 55)) ∧ (d 1 = true → d 5 = true → lb (s 53) ≠ lb (s 57)) ∧ (d 3 = true → d 5 = true → lb (s 55) ≠ lb (s 57)) ∧ (d 9 = true → d 1 = true) ∧ (d 10 = true → d 3 = true) ∧ (d 11 = true → d 5 = true) ∧ Below w4b.heap.size w4b W)
    rfl (by kernel_rfl) ?_ ?_ ?_
  · exact ⟨by simp, by simp, by simp, by simp, by simp, by simp, by simp, by simp, by simp, by simp, by simp, by simp, by simp, by simp, by simp, by simp, by simp, by simp, by simp, by simp, by simp, by simp, by simp, by simp, (Below.refl _ _).drew⟩
  · refine ⟨?_, ?_, ?_, ?_, ?_, ?_, ?_, ?_, ?_, ?_, ?_, ?_, trivial⟩
    all_goals
      intro d s W hJ hfr hd hdep
      simp only [List.mem_cons, forall_eq_or_imp, List.not_mem_nil, false_implies, implies_true, and_true, Region.binds] at hdep
      have f9 := hfr 9 (by decide)
      have f10 := hfr 10 (by decide)
      have f12 := hfr 12 (by decide)
      simp at f9 f10 f12 hdep
      obtain ⟨h0, h1, h2, h3, h4, h5, h6, h7, h8, h9, h10, h11, x0, x1, x2, x3, x4, x5, x6, x7, x8, x9, x10, x11, hT⟩ := hJ
    · as_aux_lemma =>
        unfold OpSteps
        obtain ⟨p0, p1, p2, p3, p4⟩ := cells5 (Hx3.out.below hT Hx3.out.lt)
        simp [go_sem, evS, f9, p0, p1, p2, p3, p4]
        exact ⟨fun _ => by simp [sput], fun h => by simpa [sput] using h1 (by simpa [did] using h), kpw h2, fun h => by simpa [sput] using h3 (by simpa [did] using h), kpw h4, fun h => by simpa [sput] using h5 (by simpa [did] using h), fun h => by simpa [sput] using h6 (by simpa [did] using h), fun h => by simpa [sput] using h7 (by simpa [did] using h), fun h => by simpa [sput] using h8 (by simpa [did] using h), fun h => by simpa [sput] using h9 (by simpa [did] using h), fun h => by simpa [sput] using h10 (by simpa [did] using h), fun h => by simpa [sput] using h11 (by simpa [did] using h), by simpa [sput, did] using x0, by simpa [sput, did] using x1, by simpa [sput, did] using x2, by simpa [sput, did] using x3, by simpa [sput, did] using x4, by simpa [sput, did] using x5, by simpa [sput, did] using x6, by simpa [sput, did] using x7, by simpa [sput, did] using x8, by simpa [sput, did] using x9, by simpa [sput, did] using x10, by simpa [sput, did] using x11, hT⟩
    · as_aux_lemma =>
        have g0 := h0 (by simp [hdep])
        unfold OpSteps
        simp [go_sem, evS, g0]
        refine (HApx.out W (below_nx HB3.out hT)).mono ?_
        rintro e W' ⟨g9, c9, rfl, ho, hg, hb⟩
        refine ⟨_, rfl, ?_⟩
        exact ⟨kpw h0, fun _ => ⟨g9, c9, by simp [sput], ho, Nat.le_trans hT.size hg⟩, kpw h2, fun h => by simpa [sput] using (h3 (by simpa [did] using h)).below hb, kpw h4, fun h => by simpa [sput] using (h5 (by simpa [did] using h)).below hb, fun h => by simpa [sput] using (h6 (by simpa [did] using h)).below hb, fun h => by simpa [sput] using (h7 (by simpa [did] using h)).below hb, fun h => by simpa [sput] using (h8 (by simpa [did] using h)).below hb, fun h => by have := x9 (by simpa [did] using h); simp [hd] at this, fun h => by simpa [sput] using (h10 (by simpa [did] using h)).below hb, fun h => by simpa [sput] using (h11 (by simpa [did] using h)).below hb, by simpa [sput, did] using x0, by simpa [sput, did] using x1, by simpa [sput, did] using x2, by simpa [sput, did] using x3, by simpa [sput, did] using x4, by simpa [sput, did] using x5, fun _ e3 => by have hq := (h3 (by simpa [did] using e3)).lb_lt; simp [sput, lb_mat]; omega, fun _ e3 => by have hq := (h5 (by simpa [did] using e3)).lb_lt; simp [sput, lb_mat]; omega, by simpa [sput, did] using x8, fun _ => by simp [did], by simpa [sput, did] using x10, by simpa [sput, did] using x11, below_nx hT hb⟩
    · as_aux_lemma =>
        unfold OpSteps
        obtain ⟨p0, p1, p2, p3, p4⟩ := cells5 (Hy3.out.below hT Hy3.out.lt)
        simp [go_sem, evS, f10, p0, p1, p2, p3, p4]
        exact ⟨kpw h0, fun h => by simpa [sput] using h1 (by simpa [did] using h), fun _ => by simp [sput], fun h => by simpa [sput] using h3 (by simpa [did] using h), kpw h4, fun h => by simpa [sput] using h5 (by simpa [did] using h), fun h => by simpa [sput] using h6 (by simpa [did] using h), fun h => by simpa [sput] using h7 (by simpa [did] using h), fun h => by simpa [sput] using h8 (by simpa [did] using h), fun h => by simpa [sput] using h9 (by simpa [did] using h), fun h => by simpa [sput] using h10 (by simpa [did] using h), fun h => by simpa [sput] using h11 (by simpa [did] using h), by simpa [sput, did] using x0, by simpa [sput, did] using x1, by simpa [sput, did] using x2, by simpa [sput, did] using x3, by simpa [sput, did] using x4, by simpa [sput, did] using x5, by simpa [sput, did] using x6, by simpa [sput, did] using x7, by simpa [sput, did] using x8, by simpa [sput, did] using x9, by simpa [sput, did] using x10, by simpa [sput, did] using x11, hT⟩
    · as_aux_lemma =>
        have g2 := h2 (by simp [hdep])
        unfold OpSteps
        simp [go_sem, evS, g2]
        refine (HApy.out W (below_nx HB3.out hT)).mono ?_
        rintro e W' ⟨g9, c9, rfl, ho, hg, hb⟩
        refine ⟨_, rfl, ?_⟩
        exact ⟨kpw h0, fun h => by simpa [sput] using (h1 (by simpa [did] using h)).below hb, kpw h2, fun _ => ⟨g9, c9, by simp [sput], ho, Nat.le_trans hT.size hg⟩, kpw h4, fun h => by simpa [sput] using (h5 (by simpa [did] using h)).below hb, fun h => by simpa [sput] using (h6 (by simpa [did] using h)).below hb, fun h => by simpa [sput] using (h7 (by simpa [did] using h)).below hb, fun h => by simpa [sput] using (h8 (by simpa [did] using h)).below hb, fun h => by simpa [sput] using (h9 (by simpa [did] using h)).below hb, fun h => by have := x10 (by simpa [did] using h); simp [hd] at this, fun h => by simpa [sput] using (h11 (by simpa [did] using h)).below hb, by simpa [sput, did] using x0, by simpa [sput, did] using x1, by simpa [sput, did] using x2, by simpa [sput, did] using x3, by simpa [sput, did] using x4, by simpa [sput, did] using x5, fun e1 _ => by have hq := (h1 (by simpa [did] using e1)).lb_lt; simp [sput, lb_mat]; omega, by simpa [sput, did] using x7, fun _ e3 => by have hq := (h5 (by simpa [did] using e3)).lb_lt; simp [sput, lb_mat]; omega, by simpa [sput, did] using x9, fun _ => by simp [did], by simpa [sput, did] using x11, below_nx hT hb⟩
    · as_aux_lemma =>
        unfold OpSteps
        obtain ⟨p0, p1, p2, p3, p4⟩ := cells5 (Hm3.out.below hT Hm3.out.lt)
        simp [go_sem, evS, f12, p0, p1, p2, p3, p4]
        exact ⟨kpw h0, fun h => by simpa [sput] using h1 (by simpa [did] using h), kpw h2, fun h => by simpa [sput] using h3 (by simpa [did] using h), fun _ => by simp [sput], fun h => by simpa [sput] using h5 (by simpa [did] using h), fun h => by simpa [sput] using h6 (by simpa [did] using h), fun h => by simpa [sput] using h7 (by simpa [did] using h), fun h => by simpa [sput] using h8 (by simpa [did] using h), fun h => by simpa [sput] using h9 (by simpa [did] using h), fun h => by simpa [sput] using h10 (by simpa [did] using h), fun h => by simpa [sput] using h11 (by simpa [did] using h), by simpa [sput, did] using x0, by simpa [sput, did] using x1, by simpa [sput, did] using x2, by simpa [sput, did] using x3, by simpa [sput, did] using x4, by simpa [sput, did] using x5, by simpa [sput, did] using x6, by simpa [sput, did] using x7, by simpa [sput, did] using x8, by simpa [sput, did] using x9, by simpa [sput, did] using x10, by simpa [sput, did] using x11, hT⟩
    · as_aux_lemma =>
        have g4 := h4 (by simp [hdep])
        unfold OpSteps
        simp [go_sem, evS, g4]
        refine (HApm.out W (below_nx HB3.out hT)).mono ?_
        rintro e W' ⟨g9, c9, rfl, ho, hg, hb⟩
        refine ⟨_, rfl, ?_⟩
        exact ⟨kpw h0, fun h => by simpa [sput] using (h1 (by simpa [did] using h)).below hb, kpw h2, fun h => by simpa [sput] using (h3 (by simpa [did] using h)).below hb, kpw h4, fun _ => ⟨g9, c9, by simp [sput], ho, Nat.le_trans hT.size hg⟩, fun h => by simpa [sput] using (h6 (by simpa [did] using h)).below hb, fun h => by simpa [sput] using (h7 (by simpa [did] using h)).below hb, fun h => by simpa [sput] using (h8 (by simpa [did] using h)).below hb, fun h => by simpa [sput] using (h9 (by simpa [did] using h)).below hb, fun h => by simpa [sput] using (h10 (by simpa [did] using h)).below hb, fun h => by have := x11 (by simpa [did] using h); simp [hd] at this, by simpa [sput, did] using x0, by simpa [sput, did] using x1, by simpa [sput, did] using x2, by simpa [sput, did] using x3, by simpa [sput, did] using x4, by simpa [sput, did] using x5, by simpa [sput, did] using x6, fun e1 _ => by have hq := (h1 (by simpa [did] using e1)).lb_lt; simp [sput, lb_mat]; omega, fun e1 _ => by have hq := (h3 (by simpa [did] using e1)).lb_lt; simp [sput, lb_mat]; omega, by simpa [sput, did] using x9, by simpa [sput, did] using x10, fun _ => by simp [did], below_nx hT hb⟩
    · as_aux_lemma =>
        unfold OpSteps
        simp [go_sem, evS]
        exact ⟨kpw h0, fun h => by simpa [sput] using (h1 (by simpa [did] using h)).below below_one, kpw h2, fun h => by simpa [sput] using (h3 (by simpa [did] using h)).below below_one, kpw h4, fun h => by simpa [sput] using (h5 (by simpa [did] using h)).below below_one, fun _ => ⟨W.heap.size, _, _, _, _, _, by simp [sput], Blk.new W _ _, hT.size⟩, fun h => by simpa [sput] using (h7 (by simpa [did] using h)).below below_one, fun h => by simpa [sput] using (h8 (by simpa [did] using h)).below below_one, fun h => by have := x0 (by simpa [did] using h); simp [hd] at this, fun h => by simpa [sput] using (h10 (by simpa [did] using h)).below below_one, fun h => by simpa [sput] using (h11 (by simpa [did] using h)).below below_one, fun _ => by simp [did], by simpa [sput, did] using x1, by simpa [sput, did] using x2, fun _ e8 => by have hq := (h7 (by simpa [did] using e8)).new_ne; simp [sput]; exact fun e => hq e.symm, fun _ e8 => by have hq := (h8 (by simpa [did] using e8)).new_ne; simp [sput]; exact fun e => hq e.symm, by simpa [sput, did] using x5, by simpa [sput, did] using x6, by simpa [sput, did] using x7, by simpa [sput, did] using x8, by simpa [sput, did] using x9, by simpa [sput, did] using x10, by simpa [sput, did] using x11, below_al hT⟩
    · as_aux_lemma =>
        unfold OpSteps
        simp [go_sem, evS]
        exact ⟨kpw h0, fun h => by simpa [sput] using (h1 (by simpa [did] using h)).below below_one, kpw h2, fun h => by simpa [sput] using (h3 (by simpa [did] using h)).below below_one, kpw h4, fun h => by simpa [sput] using (h5 (by simpa [did] using h)).below below_one, fun h => by simpa [sput] using (h6 (by simpa [did] using h)).below below_one, fun _ => ⟨W.heap.size, _, _, _, _, _, by simp [sput], Blk.new W _ _, hT.size⟩, fun h => by simpa [sput] using (h8 (by simpa [did] using h)).below below_one, fun h => by simpa [sput] using (h9 (by simpa [did] using h)).below below_one, fun h => by have := x1 (by simpa [did] using h); simp [hd] at this, fun h => by simpa [sput] using (h11 (by simpa [did] using h)).below below_one, by simpa [sput, did] using x0, fun _ => by simp [did], by simpa [sput, did] using x2, fun e7 _ => by have hq := (h6 (by simpa [did] using e7)).new_ne; simp [sput]; exact hq, by simpa [sput, did] using x4, fun _ e8 => by have hq := (h8 (by simpa [did] using e8)).new_ne; simp [sput]; exact fun e => hq e.symm, by simpa [sput, did] using x6, by simpa [sput, did] using x7, by simpa [sput, did] using x8, by simpa [sput, did] using x9, by simpa [sput, did] using x10, by simpa [sput, did] using x11, below_al hT⟩
    · as_aux_lemma =>
        unfold OpSteps
        simp [go_sem, evS]
        exact ⟨kpw h0, fun h => by simpa [sput] using (h1 (by simpa [did] using h)).below below_one, kpw h2, fun h => by simpa [sput] using (h3 (by simpa [did] using h)).below below_one, kpw h4, fun h => by simpa [sput] using (h5 (by simpa [did] using h)).below below_one, fun h => by simpa [sput] using (h6 (by simpa [did] using h)).below below_one, fun h => by simpa [sput] using (h7 (by simpa [did] using h)).below below_one, fun _ => ⟨W.heap.size, _, _, _, _, _, by simp [sput], Blk.new W _ _, hT.size⟩, fun h => by simpa [sput] using (h9 (by simpa [did] using h)).below below_one, fun h => by simpa [sput] using (h10 (by simpa [did] using h)).below below_one, fun h => by have := x2 (by simpa [did] using h); simp [hd] at this, by simpa [sput, did] using x0, by simpa [sput, did] using x1, fun _ => by simp [did], by simpa [sput, did] using x3, fun e7 _ => by have hq := (h6 (by simpa [did] using e7)).new_ne; simp [sput]; exact hq, fun e7 _ => by have hq := (h7 (by simpa [did] using e7)).new_ne; simp [sput]; exact hq, by simpa [sput, did] using x6, by simpa [sput, did] using x7, by simpa [sput, did] using x8, by simpa [sput, did] using x9, by simpa [sput, did] using x10, by simpa [sput, did] using x11, below_al hT⟩
    · as_aux_lemma =>
        have g6 := h6 (by simp [hdep])
        have g1 := h1 (by simp [hdep])
        unfold OpSteps
        obtain ⟨p9, z0, z1, z2, z3, z4, gp, hB9, hlo⟩ := g6
        obtain ⟨g9, c9, gv, gO, gz⟩ := g1
        have e7 : d 6 = true := by simp [hdep]
        obtain ⟨fr0, fr1, fr2, fr3, fr4⟩ := frozen5w hB9
        obtain ⟨k0, k1, k2, k3, k4⟩ := cells5 hB9
        have hfar : ∀ k9, k9 ≠ p9 → _ := fun k9 (hk9 : k9 ≠ p9) => heap_sets5 (w := W) hk9 (.slice (some ⟨g9, 0, none⟩) nx c9) (.int .i64 xo) (.int .i64 xr) (.int .i64 xk) (.int .i64 xl)
        simp [go_sem, evS, gp, gv, fr0, fr1, fr2, fr3, fr4, k0, k1, k2, k3, k4]
        exact ⟨kpw h0, fun h => by simpa [sput] using (h1 (by simpa [did] using h)).far hB9 (by decide) hfar, kpw h2, fun h => by simpa [sput] using (h3 (by simpa [did] using h)).far hB9 (by decide) hfar, kpw h4, fun h => by simpa [sput] using (h5 (by simpa [did] using h)).far hB9 (by decide) hfar, fun h => ⟨p9, _, _, _, _, _, by simpa [sput] using gp, Blk.store5 hB9 _ _ _ _ _, hlo⟩, fun h => by simpa [sput] using (h7 (by simpa [did] using h)).far (fun e => x3 e7 (by simpa [did] using h) (gp.trans e.symm)) hfar, fun h => by simpa [sput] using (h8 (by simpa [did] using h)).far (fun e => x4 e7 (by simpa [did] using h) (gp.trans e.symm)) hfar, fun _ => by simp only [sput, gv, lb_mat]; exact ⟨p9, c9, by simpa using gp, Blk.store5 hB9 _ _ _ _ _, own_off gO (own_ne gO hB9 (by decide)) hfar, hlo, gz⟩, fun h => by simpa [sput] using (h10 (by simpa [did] using h)).far hB9 (by decide) (fun e => x3 e7 (x1 (by simpa [did] using h)) (gp.trans e.symm)) hfar, fun h => by simpa [sput] using (h11 (by simpa [did] using h)).far hB9 (by decide) (fun e => x4 e7 (x2 (by simpa [did] using h)) (gp.trans e.symm)) hfar, fun _ => by simp [did, hdep], by simpa [sput, did] using x1, by simpa [sput, did] using x2, by simpa [sput, did] using x3, by simpa [sput, did] using x4, by simpa [sput, did] using x5, by simpa [sput, did] using x6, by simpa [sput, did] using x7, by simpa [sput, did] using x8, fun _ => by simp [did, hdep], by simpa [sput, did] using x10, by simpa [sput, did] using x11, below_sets5 hT hlo _ _ _ _ _⟩
    · as_aux_lemma =>
        have g7 := h7 (by simp [hdep])
        have g3 := h3 (by simp [hdep])
        unfold OpSteps
        obtain ⟨p9, z0, z1, z2, z3, z4, gp, hB9, hlo⟩ := g7
        obtain ⟨g9, c9, gv, gO, gz⟩ := g3
        have e7 : d 7 = true := by simp [hdep]
        obtain ⟨fr0, fr1, fr2, fr3, fr4⟩ := frozen5w hB9
        obtain ⟨k0, k1, k2, k3, k4⟩ := cells5 hB9
        have hfar : ∀ k9, k9 ≠ p9 → _ := fun k9 (hk9 : k9 ≠ p9) => heap_sets5 (w := W) hk9 (.slice (some ⟨g9, 0, none⟩) nm c9) (.int .i64 yo) (.int .i64 yr) (.int .i64 yk) (.int .i64 yl)
        simp [go_sem, evS, gp, gv, fr0, fr1, fr2, fr3, fr4, k0, k1, k2, k3, k4]
        exact ⟨kpw h0, fun h => by simpa [sput] using (h1 (by simpa [did] using h)).far hB9 (by decide) hfar, kpw h2, fun h => by simpa [sput] using (h3 (by simpa [did] using h)).far hB9 (by decide) hfar, kpw h4, fun h => by simpa [sput] using (h5 (by simpa [did] using h)).far hB9 (by decide) hfar, fun h => by simpa [sput] using (h6 (by simpa [did] using h)).far (fun e => x3 (by simpa [did] using h) e7 (e.trans gp.symm)) hfar, fun h => ⟨p9, _, _, _, _, _, by simpa [sput] using gp, Blk.store5 hB9 _ _ _ _ _, hlo⟩, fun h => by simpa [sput] using (h8 (by simpa [did] using h)).far (fun e => x5 e7 (by simpa [did] using h) (gp.trans e.symm)) hfar, fun h => by simpa [sput] using (h9 (by simpa [did] using h)).far hB9 (by decide) (fun e => x3 (x0 (by simpa [did] using h)) e7 (e.trans gp.symm)) hfar, fun _ => by simp only [sput, gv, lb_mat]; exact ⟨p9, c9, by simpa using gp, Blk.store5 hB9 _ _ _ _ _, own_off gO (own_ne gO hB9 (by decide)) hfar, hlo, gz⟩, fun h => by simpa [sput] using (h11 (by simpa [did] using h)).far hB9 (by decide) (fun e => x5 e7 (x2 (by simpa [did] using h)) (gp.trans e.symm)) hfar, by simpa [sput, did] using x0, fun _ => by simp [did, hdep], by simpa [sput, did] using x2, by simpa [sput, did] using x3, by simpa [sput, did] using x4, by simpa [sput, did] using x5, by simpa [sput, did] using x6, by simpa [sput, did] using x7, by simpa [sput, did] using x8, by simpa [sput, did] using x9, fun _ => by simp [did, hdep], by simpa [sput, did] using x11, below_sets5 hT hlo _ _ _ _ _⟩
    · as_aux_lemma =>
        have g8 := h8 (by simp [hdep])
        have g5 := h5 (by simp [hdep])
        unfold OpSteps
        obtain ⟨p9, z0, z1, z2, z3, z4, gp, hB9, hlo⟩ := g8
        obtain ⟨g9, c9, gv, gO, gz⟩ := g5
        have e7 : d 8 = true := by simp [hdep]
        obtain ⟨fr0, fr1, fr2, fr3, fr4⟩ := frozen5w hB9
        obtain ⟨k0, k1, k2, k3, k4⟩ := cells5 hB9
        have hfar : ∀ k9, k9 ≠ p9 → _ := fun k9 (hk9 : k9 ≠ p9) => heap_sets5 (w := W) hk9 (.slice (some ⟨g9, 0, none⟩) nm c9) (.int .i64 mo) (.int .i64 mr) (.int .i64 mk) (.int .i64 ml)
        simp [go_sem, evS, gp, gv, fr0, fr1, fr2, fr3, fr4, k0, k1, k2, k3, k4]
        exact ⟨kpw h0, fun h => by simpa [sput] using (h1 (by simpa [did] using h)).far hB9 (by decide) hfar, kpw h2, fun h => by simpa [sput] using (h3 (by simpa [did] using h)).far hB9 (by decide) hfar, kpw h4, fun h => by simpa [sput] using (h5 (by simpa [did] using h)).far hB9 (by decide) hfar, fun h => by simpa [sput] using (h6 (by simpa [did] using h)).far (fun e => x4 (by simpa [did] using h) e7 (e.trans gp.symm)) hfar, fun h => by simpa [sput] using (h7 (by simpa [did] using h)).far (fun e => x5 (by simpa [did] using h) e7 (e.trans gp.symm)) hfar, fun h => ⟨p9, _, _, _, _, _, by simpa [sput] using gp, Blk.store5 hB9 _ _ _ _ _, hlo⟩, fun h => by simpa [sput] using (h9 (by simpa [did] using h)).far hB9 (by decide) (fun e => x4 (x0 (by simpa [did] using h)) e7 (e.trans gp.symm)) hfar, fun h => by simpa [sput] using (h10 (by simpa [did] using h)).far hB9 (by decide) (fun e => x5 (x1 (by simpa [did] using h)) e7 (e.trans gp.symm)) hfar, fun _ => by simp only [sput, gv, lb_mat]; exact ⟨p9, c9, by simpa using gp, Blk.store5 hB9 _ _ _ _ _, own_off gO (own_ne gO hB9 (by decide)) hfar, hlo, gz⟩, by simpa [sput, did] using x0, by simpa [sput, did] using x1, fun _ => by simp [did, hdep], by simpa [sput, did] using x3, by simpa [sput, did] using x4, by simpa [sput, did] using x5, by simpa [sput, did] using x6, by simpa [sput, did] using x7, by simpa [sput, did] using x8, by simpa [sput, did] using x9, by simpa [sput, did] using x10, fun _ => by simp [did, hdep], below_sets5 hT hlo _ _ _ _ _⟩
  intro d s W hJ hd
  obtain ⟨h0, h1, h2, h3, h4, h5, h6, h7, h8, h9, h10, h11, x0, x1, x2, x3, x4, x5, x6, x7, x8, x9, x10, x11, hT⟩ := hJ
  have hgxy := x6 (hd 1 (by decide)) (hd 3 (by decide))
  have hgxm := x7 (hd 1 (by decide)) (hd 5 (by decide))
  have hgym := x8 (hd 3 (by decide)) (hd 5 (by decide))
  have h9' := h9 (hd 9 (by decide))
  have h10' := h10 (hd 10 (by decide))
  have h11' := h11 (hd 11 (by decide))
  have hpxy := x3 (hd 6 (by decide)) (hd 7 (by decide))
  have hpxm := x4 (hd 6 (by decide)) (hd 8 (by decide))
  have hpym := x5 (hd 7 (by decide)) (hd 8 (by decide))
  clear h0 h1 h2 h3 h4 h5 h6 h7 h8 h9 h10 h11 x0 x1 x2 x3 x4 x5 x6 x7 x8 x9 x10 x11 hd
  generalize lb (s 53) = gp at *
  generalize lb (s 55) = gq at *
  generalize lb (s 57) = gn at *
  obtain ⟨pp, cp9, hs11, hBp, hOp, hpl, hgl2⟩ := h9'
  obtain ⟨pq, cq9, hs12, hBq, hOq, hql, hgl3⟩ := h10'
  obtain ⟨pn, cn, hs13, hBn, hOn, hnl, hgl⟩ := h11'
  have hpq : pp ≠ pq := fun e => hpxy (by rw [hs11, hs12, e])
  have hnp : pn ≠ pp := fun e => hpxm (by rw [hs11, hs13, e])
  have hnq : pn ≠ pq := fun e => hpym (by rw [hs12, hs13, e])
  have hb : Below w4b.heap.size w4b W := hT
  clear hpxy hpxm hpym hT
  simp [setAll, hs11, hs12, hs13]
  clear hs11 hs12 hs13
  generalize s 52 = s52
  generalize s 53 = s53
  generalize s 54 = s54
  generalize s 55 = s55
  generalize s 56 = s56
  generalize s 57 = s57
  have hy5 : w.heap.size + 1 + 1 + 1 < w4b.heap.size := Hm3.out.lt
  have HNe := Lib.hid (show gp ≠ gn ∧ gq ≠ gn ∧ gp ≠ gq ∧ pp ≠ pq ∧ pn ≠ pp ∧ pn ≠ pq ∧ w.heap.size + 1 + 1 + 1 < pn ∧ w.heap.size + 1 + 1 + 1 < pp ∧ w.heap.size + 1 + 1 + 1 < pq ∧ w.heap.size + 1 + 1 + 1 < gn from by refine ⟨hgxm, hgym, hgxy, hpq, hnp, hnq, by omega, by omega, by omega, by omega⟩)
  clear hy5 hpq hnp hnq hgxy hgxm hgym hnl hgl hpl hgl2 hql hgl3
  generalize hW6 : W = w6 at *
  clear hW6
  have Hj4 := Lib.hid (Hj3.out.nxt hb)
  have Hx4 := Lib.hid (Hx3.out.nxt hb)
  have Hy4 := Lib.hid (Hy3.out.nxt hb)
  have Hm4 := Lib.hid (Hm3.out.nxt hb)
  have HB4 := Lib.hid (below_nx HB3.out hb)
  clear hb
  clear j0 j1 j2 x0 x1 x2 x3 x4 y0 y1 y2 y3 y4 m0 m1 m2 m3 m4
  obtain ⟨j0, j1, j2⟩ := cells3v Hj4.out
  obtain ⟨x0, x1, x2, x3, x4⟩ := cells5 Hx4.out
  obtain ⟨y0, y1, y2, y3, y4⟩ := cells5 Hy4.out
  obtain ⟨m0, m1, m2, m3, m4⟩ := cells5 Hm4.out
  clear Hj3 Hx3 Hy3 Hm3 HB3
  have Hn4 := Lib.hid hBn
  have Hp4 := Lib.hid hBp
  have Hq4 := Lib.hid hBq
  have Hu4 := Lib.hid hOn
  have Hv4 := Lib.hid hOp
  have Ht4 := Lib.hid hOq
  clear hBn hBp hBq hOn hOp hOq
  clear j0 j1 j2 x0 x1 x2 x3 x4 y0 y1 y2 y3 y4 m0 m1 m2 m3 m4
  clear HApm HApx HApy HGr
  obtain ⟨j0, j1, j2⟩ := cells3v Hj4.out
  obtain ⟨x0, x1, x2, x3, x4⟩ := cells5 Hx4.out
  obtain ⟨y0, y1, y2, y3, y4⟩ := cells5 Hy4.out
  obtain ⟨m0, m1, m2, m3, m4⟩ := cells5 Hm4.out
  obtain ⟨n0, n1, n2, n3, n4⟩ := cells5 Hn4.out
  obtain ⟨p0, p1, p2, p3, p4⟩ := cells5 Hp4.out
  obtain ⟨q0, q1, q2, q3, q4⟩ := cells5 Hq4.out
  obtain ⟨f0, _, _, _, _⟩ := frozen5 Hq4.out
  go_upto_region 14 with fail
  have hb9 : Blk (w6.setCell ⟨pq, 0, none⟩ (.slice (some ⟨gn, 0, none⟩) nm cn)) (pq) 26 #[.slice (some ⟨gn, 0, none⟩) nm cn, .int .i64 yo, .int .i64 yr, .int .i64 yk, .int .i64 yl] := by simpa using Hq4.out.set_ 0 (.slice (some ⟨gn, 0, none⟩) nm cn)
  have Hj5 := Lib.hid (Hj4.out.other (p := ⟨pq, 0, none⟩) ((by have := HNe.out; simp; omega)) (.slice (some ⟨gn, 0, none⟩) nm cn))
  have Hx5 := Lib.hid (Hx4.out.other (p := ⟨pq, 0, none⟩) ((by have := HNe.out; simp; omega)) (.slice (some ⟨gn, 0, none⟩) nm cn))
  have Hy5 := Lib.hid (Hy4.out.other (p := ⟨pq, 0, none⟩) ((by have := HNe.out; simp; omega)) (.slice (some ⟨gn, 0, none⟩) nm cn))
  have Hm5 := Lib.hid (Hm4.out.other (p := ⟨pq, 0, none⟩) ((by have := HNe.out; simp; omega)) (.slice (some ⟨gn, 0, none⟩) nm cn))
  have Hn5 := Lib.hid (Hn4.out.other (p := ⟨pq, 0, none⟩) ((by have := HNe.out; simp; omega)) (.slice (some ⟨gn, 0, none⟩) nm cn))
  have Hp5 := Lib.hid (Hp4.out.other (p := ⟨pq, 0, none⟩) ((by have := HNe.out; simp; omega)) (.slice (some ⟨gn, 0, none⟩) nm cn))
  have Hu5 := Lib.hid (Hu4.out.other (p := ⟨pq, 0, none⟩) (own_ne Hu4.out Hq4.out (by decide)) (.slice (some ⟨gn, 0, none⟩) nm cn))
  have Hv5 := Lib.hid (Hv4.out.other (p := ⟨pq, 0, none⟩) (own_ne Hv4.out Hq4.out (by decide)) (.slice (some ⟨gn, 0, none⟩) nm cn))
  have Ht5 := Lib.hid (Ht4.out.other (p := ⟨pq, 0, none⟩) (own_ne Ht4.out Hq4.out (by decide)) (.slice (some ⟨gn, 0, none⟩) nm cn))
  have Hq5 := Lib.hid hb9
  have HB5 := Lib.hid (HB4.out.setCell (p := ⟨pq, 0, none⟩) ((by have := HNe.out; simp; omega)) (.slice (some ⟨gn, 0, none⟩) nm cn))
  clear j0 j1 j2 x0 x1 x2 x3 x4 y0 y1 y2 y3 y4 m0 m1 m2 m3 m4 n0 n1 n2 n3 n4 p0 p1 p2 p3 p4 q0 q1 q2 q3 q4
  clear hb9 f0
  generalize (w6.setCell ⟨pq, 0, none⟩ (.slice (some ⟨gn, 0, none⟩) nm cn)) = w7 at *
  obtain ⟨j0, j1, j2⟩ := cells3v Hj5.out
  obtain ⟨x0, x1, x2, x3, x4⟩ := cells5 Hx5.out
  obtain ⟨y0, y1, y2, y3, y4⟩ := cells5 Hy5.out
  obtain ⟨m0, m1, m2, m3, m4⟩ := cells5 Hm5.out
  obtain ⟨n0, n1, n2, n3, n4⟩ := cells5 Hn5.out
  obtain ⟨p0, p1, p2, p3, p4⟩ := cells5 Hp5.out
  obtain ⟨q0, q1, q2, q3, q4⟩ := cells5 Hq5.out
  clear Hj4 Hx4 Hy4 Hm4 Hn4 Hp4 Hq4 Hu4 Hv4 Ht4 HB4
  go_upto_region 15 with fail
  have hba := below_one (W := w7) (o := (.cells #[.int .i64 s1, .int .i64 s2, .int .i64 s3] 31))
  have HZn := Lib.hid (Blk.new w7 31 #[.int .i64 s1, .int .i64 s2, .int .i64 s3])
  have Hj6 := Lib.hid (Hj5.out.nxt hba)
  have Hx6 := Lib.hid (Hx5.out.nxt hba)
  have Hy6 := Lib.hid (Hy5.out.nxt hba)
  have Hm6 := Lib.hid (Hm5.out.nxt hba)
  have Hn6 := Lib.hid (Hn5.out.nxt hba)
  have Hp6 := Lib.hid (Hp5.out.nxt hba)
  have Hq6 := Lib.hid (Hq5.out.nxt hba)
  have Hu6 := Lib.hid (Hu5.out.nxt hba)
  have Hv6 := Lib.hid (Hv5.out.nxt hba)
  have Ht6 := Lib.hid (Ht5.out.nxt hba)
  have HB6 := Lib.hid (below_nx HB5.out hba)
  clear hba
  clear j0 j1 j2 x0 x1 x2 x3 x4 y0 y1 y2 y3 y4 m0 m1 m2 m3 m4 n0 n1 n2 n3 n4 p0 p1 p2 p3 p4 q0 q1 q2 q3 q4
  obtain ⟨j0, j1, j2⟩ := cells3v Hj6.out
  obtain ⟨x0, x1, x2, x3, x4⟩ := cells5 Hx6.out
  obtain ⟨y0, y1, y2, y3, y4⟩ := cells5 Hy6.out
  obtain ⟨m0, m1, m2, m3, m4⟩ := cells5 Hm6.out
  obtain ⟨n0, n1, n2, n3, n4⟩ := cells5 Hn6.out
  obtain ⟨p0, p1, p2, p3, p4⟩ := cells5 Hp6.out
  obtain ⟨q0, q1, q2, q3, q4⟩ := cells5 Hq6.out
  clear Hj5 Hx5 Hy5 Hm5 Hn5 Hp5 Hq5 Hu5 Hv5 Ht5 HB5
  clear j0 j1 j2 x0 x1 x2 x3 x4 y0 y1 y2 y3 y4 m0 m1 m2 m3 m4 n0 n1 n2 n3 n4 p0 p1 p2 p3 p4 q0 q1 q2 q3 q4
  generalize hzs : w7.heap.size = zs at *
  generalize w7.alloc (.cells #[.int .i64 s1, .int .i64 s2, .int .i64 s3] 31) = wz at *
  clear hzs
  have Hz6 := HZn
  clear HZn
  obtain ⟨j0, j1, j2⟩ := cells3v Hj6.out
  obtain ⟨x0, x1, x2, x3, x4⟩ := cells5 Hx6.out
  obtain ⟨y0, y1, y2, y3, y4⟩ := cells5 Hy6.out
  obtain ⟨m0, m1, m2, m3, m4⟩ := cells5 Hm6.out
  obtain ⟨n0, n1, n2, n3, n4⟩ := cells5 Hn6.out
  obtain ⟨p0, p1, p2, p3, p4⟩ := cells5 Hp6.out
  obtain ⟨q0, q1, q2, q3, q4⟩ := cells5 Hq6.out
  obtain ⟨z0, z1, z2⟩ := cells3v Hz6.out
  go_wp2_with fail
  refine (HRr.out _).mono ?_
  rintro e wr ⟨rfl, hb⟩
  have Hj7 := Lib.hid (Hj6.out.nxt hb)
  have Hx7 := Lib.hid (Hx6.out.nxt hb)
  have Hy7 := Lib.hid (Hy6.out.nxt hb)
  have Hm7 := Lib.hid (Hm6.out.nxt hb)
  have Hn7 := Lib.hid (Hn6.out.nxt hb)
  have Hp7 := Lib.hid (Hp6.out.nxt hb)
  have Hq7 := Lib.hid (Hq6.out.nxt hb)
  have Hz7 := Lib.hid (Hz6.out.nxt hb)
  have Hu7 := Lib.hid (Hu6.out.nxt hb)
  have Hv7 := Lib.hid (Hv6.out.nxt hb)
  have Ht7 := Lib.hid (Ht6.out.nxt hb)
  have HB7 := Lib.hid (below_nx HB6.out hb)
  clear hb
  clear j0 j1 j2 x0 x1 x2 x3 x4 y0 y1 y2 y3 y4 m0 m1 m2 m3 m4 n0 n1 n2 n3 n4 p0 p1 p2 p3 p4 q0 q1 q2 q3 q4 z0 z1 z2
  obtain ⟨j0, j1, j2⟩ := cells3v Hj7.out
  obtain ⟨x0, x1, x2, x3, x4⟩ := cells5 Hx7.out
  obtain ⟨y0, y1, y2, y3, y4⟩ := cells5 Hy7.out
  obtain ⟨m0, m1, m2, m3, m4⟩ := cells5 Hm7.out
  obtain ⟨n0, n1, n2, n3, n4⟩ := cells5 Hn7.out
  obtain ⟨p0, p1, p2, p3, p4⟩ := cells5 Hp7.out
  obtain ⟨q0, q1, q2, q3, q4⟩ := cells5 Hq7.out
  obtain ⟨z0, z1, z2⟩ := cells3v Hz7.out
  clear Hj6 Hx6 Hy6 Hm6 Hn6 Hp6 Hq6 Hz6 Hu6 Hv6 Ht6 HB6
  clear j0 j1 j2 x0 x1 x2 x3 x4 y0 y1 y2 y3 y4 m0 m1 m2 m3 m4 n0 n1 n2 n3 n4 p0 p1 p2 p3 p4 q0 q1 q2 q3 q4 z0 z1 z2
  clear Hj7
  obtain ⟨x0, x1, x2, x3, x4⟩ := cells5 Hx7.out
  obtain ⟨y0, y1, y2, y3, y4⟩ := cells5 Hy7.out
  obtain ⟨m0, m1, m2, m3, m4⟩ := cells5 Hm7.out
  obtain ⟨n0, n1, n2, n3, n4⟩ := cells5 Hn7.out
  obtain ⟨p0, p1, p2, p3, p4⟩ := cells5 Hp7.out
  obtain ⟨q0, q1, q2, q3, q4⟩ := cells5 Hq7.out
  obtain ⟨z0, z1, z2⟩ := cells3v Hz7.out
  go_wp2_with fail
  refine (HPr.out _ gn cn gp cp9 HNe.out.1 Hu7.out Hv7.out).mono ?_
  rintro e w8 ⟨rfl, hb⟩
  have Hx8 := Lib.hid (Hx7.out.nxt hb)
  have Hy8 := Lib.hid (Hy7.out.nxt hb)
  have Hm8 := Lib.hid (Hm7.out.nxt hb)
  have Hn8 := Lib.hid (Hn7.out.nxt hb)
  have Hp8 := Lib.hid (Hp7.out.nxt hb)
  have Hq8 := Lib.hid (Hq7.out.nxt hb)
  have Hz8 := Lib.hid (Hz7.out.nxt hb)
  have Hu8 := Lib.hid (Hu7.out.nxt hb)
  have Hv8 := Lib.hid (Hv7.out.nxt hb)
  have Ht8 := Lib.hid (Ht7.out.nxt hb)
  have HB8 := Lib.hid (below_nx HB7.out hb)
  clear hb
  clear x0 x1 x2 x3 x4 y0 y1 y2 y3 y4 m0 m1 m2 m3 m4 n0 n1 n2 n3 n4 p0 p1 p2 p3 p4 q0 q1 q2 q3 q4 z0 z1 z2
  obtain ⟨x0, x1, x2, x3, x4⟩ := cells5 Hx8.out
  obtain ⟨y0, y1, y2, y3, y4⟩ := cells5 Hy8.out
  obtain ⟨m0, m1, m2, m3, m4⟩ := cells5 Hm8.out
  obtain ⟨n0, n1, n2, n3, n4⟩ := cells5 Hn8.out
  obtain ⟨p0, p1, p2, p3, p4⟩ := cells5 Hp8.out
  obtain ⟨q0, q1, q2, q3, q4⟩ := cells5 Hq8.out
  obtain ⟨z0, z1, z2⟩ := cells3v Hz8.out
  clear Hx7 Hy7 Hm7 Hn7 Hp7 Hq7 Hz7 Hu7 Hv7 Ht7 HB7
  go_wp2_with fail
  refine (HCk.out _).mono ?_
  rintro e we0 ⟨rfl, hb⟩
  have Hx9 := Lib.hid (Hx8.out.nxt hb)
  have Hy9 := Lib.hid (Hy8.out.nxt hb)
  have Hm9 := Lib.hid (Hm8.out.nxt hb)
  have Hn9 := Lib.hid (Hn8.out.nxt hb)
  have Hp9 := Lib.hid (Hp8.out.nxt hb)
  have Hq9 := Lib.hid (Hq8.out.nxt hb)
  have Hz9 := Lib.hid (Hz8.out.nxt hb)
  have Hu9 := Lib.hid (Hu8.out.nxt hb)
  have Hv9 := Lib.hid (Hv8.out.nxt hb)
  have Ht9 := Lib.hid (Ht8.out.nxt hb)
  have HB9 := Lib.hid (below_nx HB8.out hb)
  clear hb
  clear x0 x1 x2 x3 x4 y0 y1 y2 y3 y4 m0 m1 m2 m3 m4 n0 n1 n2 n3 n4 p0 p1 p2 p3 p4 q0 q1 q2 q3 q4 z0 z1 z2
  obtain ⟨x0, x1, x2, x3, x4⟩ := cells5 Hx9.out
  obtain ⟨y0, y1, y2, y3, y4⟩ := cells5 Hy9.out
  obtain ⟨m0, m1, m2, m3, m4⟩ := cells5 Hm9.out
  obtain ⟨n0, n1, n2, n3, n4⟩ := cells5 Hn9.out
  obtain ⟨p0, p1, p2, p3, p4⟩ := cells5 Hp9.out
  obtain ⟨q0, q1, q2, q3, q4⟩ := cells5 Hq9.out
  obtain ⟨z0, z1, z2⟩ := cells3v Hz9.out
  clear Hx8 Hy8 Hm8 Hn8 Hp8 Hq8 Hz8 Hu8 Hv8 Ht8 HB8
  cases rt
  all_goals first | (obtain rfl := HK.out.2.2 rfl; clear HK) | (obtain rfl := HK.out.2.1 rfl; have t0 : (k != 0) = true := (by simp [HK.out.1]); have t1 : (k == 0) = false := (by simp [HK.out.1]); clear HK)
  all_goals
    go_wp2_with fail
    refine (HRb.out _).mono ?_
    rintro e we1 ⟨rfl, hb⟩
    have Hx10 := Lib.hid (Hx9.out.nxt hb)
    have Hy10 := Lib.hid (Hy9.out.nxt hb)
    have Hm10 := Lib.hid (Hm9.out.nxt hb)
    have Hn10 := Lib.hid (Hn9.out.nxt hb)
    have Hp10 := Lib.hid (Hp9.out.nxt hb)
    have Hq10 := Lib.hid (Hq9.out.nxt hb)
    have Hz10 := Lib.hid (Hz9.out.nxt hb)
    have Hu10 := Lib.hid (Hu9.out.nxt hb)
    have Hv10 := Lib.hid (Hv9.out.nxt hb)
    have Ht10 := Lib.hid (Ht9.out.nxt hb)
    have HB10 := Lib.hid (below_nx HB9.out hb)
    clear hb
    clear x0 x1 x2 x3 x4 y0 y1 y2 y3 y4 m0 m1 m2 m3 m4 n0 n1 n2 n3 n4 p0 p1 p2 p3 p4 q0 q1 q2 q3 q4 z0 z1 z2
    obtain ⟨x0, x1, x2, x3, x4⟩ := cells5 Hx10.out
    obtain ⟨y0, y1, y2, y3, y4⟩ := cells5 Hy10.out
    obtain ⟨m0, m1, m2, m3, m4⟩ := cells5 Hm10.out
    obtain ⟨n0, n1, n2, n3, n4⟩ := cells5 Hn10.out
    obtain ⟨p0, p1, p2, p3, p4⟩ := cells5 Hp10.out
    obtain ⟨q0, q1, q2, q3, q4⟩ := cells5 Hq10.out
    obtain ⟨z0, z1, z2⟩ := cells3v Hz10.out
    clear Hx9 Hy9 Hm9 Hn9 Hp9 Hq9 Hz9 Hu9 Hv9 Ht9 HB9
    go_wp2_with fail
    refine (HRb.out _).mono ?_
    rintro e we2 ⟨rfl, hb⟩
    have Hx11 := Lib.hid (Hx10.out.nxt hb)
    have Hy11 := Lib.hid (Hy10.out.nxt hb)
    have Hm11 := Lib.hid (Hm10.out.nxt hb)
    have Hn11 := Lib.hid (Hn10.out.nxt hb)
    have Hp11 := Lib.hid (Hp10.out.nxt hb)
    have Hq11 := Lib.hid (Hq10.out.nxt hb)
    have Hz11 := Lib.hid (Hz10.out.nxt hb)
    have Hu11 := Lib.hid (Hu10.out.nxt hb)
    have Hv11 := Lib.hid (Hv10.out.nxt hb)
    have Ht11 := Lib.hid (Ht10.out.nxt hb)
    have HB11 := Lib.hid (below_nx HB10.out hb)
    clear hb
    clear x0 x1 x2 x3 x4 y0 y1 y2 y3 y4 m0 m1 m2 m3 m4 n0 n1 n2 n3 n4 p0 p1 p2 p3 p4 q0 q1 q2 q3 q4 z0 z1 z2
    obtain ⟨x0, x1, x2, x3, x4⟩ := cells5 Hx11.out
    obtain ⟨y0, y1, y2, y3, y4⟩ := cells5 Hy11.out
    obtain ⟨m0, m1, m2, m3, m4⟩ := cells5 Hm11.out
    obtain ⟨n0, n1, n2, n3, n4⟩ := cells5 Hn11.out
    obtain ⟨p0, p1, p2, p3, p4⟩ := cells5 Hp11.out
    obtain ⟨q0, q1, q2, q3, q4⟩ := cells5 Hq11.out
    obtain ⟨z0, z1, z2⟩ := cells3v Hz11.out
    clear Hx10 Hy10 Hm10 Hn10 Hp10 Hq10 Hz10 Hu10 Hv10 Ht10 HB10
    go_wp2_with fail
    refine (HAllx.out _ _ _ _ _ Hv11.out.row (HAx.out.below HB11.out)).mono ?_
    rintro e wa0 ⟨rfl, hb⟩
    have Hx12 := Lib.hid (Hx11.out.nxt hb)
    have Hy12 := Lib.hid (Hy11.out.nxt hb)
    have Hm12 := Lib.hid (Hm11.out.nxt hb)
    have Hn12 := Lib.hid (Hn11.out.nxt hb)
    have Hp12 := Lib.hid (Hp11.out.nxt hb)
    have Hq12 := Lib.hid (Hq11.out.nxt hb)
    have Hz12 := Lib.hid (Hz11.out.nxt hb)
    have Hu12 := Lib.hid (Hu11.out.nxt hb)
    have Hv12 := Lib.hid (Hv11.out.nxt hb)
    have Ht12 := Lib.hid (Ht11.out.nxt hb)
    have HB12 := Lib.hid (below_nx HB11.out hb)
    clear hb
    clear x0 x1 x2 x3 x4 y0 y1 y2 y3 y4 m0 m1 m2 m3 m4 n0 n1 n2 n3 n4 p0 p1 p2 p3 p4 q0 q1 q2 q3 q4 z0 z1 z2
    obtain ⟨x0, x1, x2, x3, x4⟩ := cells5 Hx12.out
    obtain ⟨y0, y1, y2, y3, y4⟩ := cells5 Hy12.out
    obtain ⟨m0, m1, m2, m3, m4⟩ := cells5 Hm12.out
    obtain ⟨n0, n1, n2, n3, n4⟩ := cells5 Hn12.out
    obtain ⟨p0, p1, p2, p3, p4⟩ := cells5 Hp12.out
    obtain ⟨q0, q1, q2, q3, q4⟩ := cells5 Hq12.out
    obtain ⟨z0, z1, z2⟩ := cells3v Hz12.out
    clear Hx11 Hy11 Hm11 Hn11 Hp11 Hq11 Hz11 Hu11 Hv11 Ht11 HB11
    go_wp2_with fail
    refine (HAlly.out _ _ _ _ _ Hu12.out.row (HAy.out.below HB12.out)).mono ?_
    rintro e wb0 ⟨rfl, hb⟩
    have Hx13 := Lib.hid (Hx12.out.nxt hb)
    have Hy13 := Lib.hid (Hy12.out.nxt hb)
    have Hm13 := Lib.hid (Hm12.out.nxt hb)
    have Hn13 := Lib.hid (Hn12.out.nxt hb)
    have Hp13 := Lib.hid (Hp12.out.nxt hb)
    have Hq13 := Lib.hid (Hq12.out.nxt hb)
    have Hz13 := Lib.hid (Hz12.out.nxt hb)
    have Hu13 := Lib.hid (Hu12.out.nxt hb)
    have Hv13 := Lib.hid (Hv12.out.nxt hb)
    have Ht13 := Lib.hid (Ht12.out.nxt hb)
    have HB13 := Lib.hid (below_nx HB12.out hb)
    clear hb
    clear x0 x1 x2 x3 x4 y0 y1 y2 y3 y4 m0 m1 m2 m3 m4 n0 n1 n2 n3 n4 p0 p1 p2 p3 p4 q0 q1 q2 q3 q4 z0 z1 z2
    obtain ⟨x0, x1, x2, x3, x4⟩ := cells5 Hx13.out
    obtain ⟨y0, y1, y2, y3, y4⟩ := cells5 Hy13.out
    obtain ⟨m0, m1, m2, m3, m4⟩ := cells5 Hm13.out
    obtain ⟨n0, n1, n2, n3, n4⟩ := cells5 Hn13.out
    obtain ⟨p0, p1, p2, p3, p4⟩ := cells5 Hp13.out
    obtain ⟨q0, q1, q2, q3, q4⟩ := cells5 Hq13.out
    obtain ⟨z0, z1, z2⟩ := cells3v Hz13.out
    clear Hx12 Hy12 Hm12 Hn12 Hp12 Hq12 Hz12 Hu12 Hv12 Ht12 HB12
    go_wp2_with fail
    refine (HAllm.out _ _ _ _ _ Hu13.out.row (HAm.out.below HB13.out)).mono ?_
    rintro e wc0 ⟨rfl, hb⟩
    have Hx14 := Lib.hid (Hx13.out.nxt hb)
    have Hy14 := Lib.hid (Hy13.out.nxt hb)
    have Hm14 := Lib.hid (Hm13.out.nxt hb)
    have Hn14 := Lib.hid (Hn13.out.nxt hb)
    have Hp14 := Lib.hid (Hp13.out.nxt hb)
    have Hq14 := Lib.hid (Hq13.out.nxt hb)
    have Hz14 := Lib.hid (Hz13.out.nxt hb)
    have Hu14 := Lib.hid (Hu13.out.nxt hb)
    have Hv14 := Lib.hid (Hv13.out.nxt hb)
    have Ht14 := Lib.hid (Ht13.out.nxt hb)
    have HB14 := Lib.hid (below_nx HB13.out hb)
    clear hb
    clear x0 x1 x2 x3 x4 y0 y1 y2 y3 y4 m0 m1 m2 m3 m4 n0 n1 n2 n3 n4 p0 p1 p2 p3 p4 q0 q1 q2 q3 q4 z0 z1 z2
    obtain ⟨x0, x1, x2, x3, x4⟩ := cells5 Hx14.out
    obtain ⟨y0, y1, y2, y3, y4⟩ := cells5 Hy14.out
    obtain ⟨m0, m1, m2, m3, m4⟩ := cells5 Hm14.out
    obtain ⟨n0, n1, n2, n3, n4⟩ := cells5 Hn14.out
    obtain ⟨p0, p1, p2, p3, p4⟩ := cells5 Hp14.out
    obtain ⟨q0, q1, q2, q3, q4⟩ := cells5 Hq14.out
    obtain ⟨z0, z1, z2⟩ := cells3v Hz14.out
    clear Hx13 Hy13 Hm13 Hn13 Hp13 Hq13 Hz13 Hu13 Hv13 Ht13 HB13
    go_wp2_with fail
    refine (awake13_any _).mono ?_
    rintro e wd0 ⟨rfl, hb⟩
    have Hx15 := Lib.hid (Hx14.out.nxt hb)
    have Hy15 := Lib.hid (Hy14.out.nxt hb)
    have Hm15 := Lib.hid (Hm14.out.nxt hb)
    have Hn15 := Lib.hid (Hn14.out.nxt hb)
    have Hp15 := Lib.hid (Hp14.out.nxt hb)
    have Hq15 := Lib.hid (Hq14.out.nxt hb)
    have Hz15 := Lib.hid (Hz14.out.nxt hb)
    have Hu15 := Lib.hid (Hu14.out.nxt hb)
    have Hv15 := Lib.hid (Hv14.out.nxt hb)
    have Ht15 := Lib.hid (Ht14.out.nxt hb)
    have HB15 := Lib.hid (below_nx HB14.out hb)
    clear hb
    clear x0 x1 x2 x3 x4 y0 y1 y2 y3 y4 m0 m1 m2 m3 m4 n0 n1 n2 n3 n4 p0 p1 p2 p3 p4 q0 q1 q2 q3 q4 z0 z1 z2
    obtain ⟨x0, x1, x2, x3, x4⟩ := cells5 Hx15.out
    obtain ⟨y0, y1, y2, y3, y4⟩ := cells5 Hy15.out
    obtain ⟨m0, m1, m2, m3, m4⟩ := cells5 Hm15.out
    obtain ⟨n0, n1, n2, n3, n4⟩ := cells5 Hn15.out
    obtain ⟨p0, p1, p2, p3, p4⟩ := cells5 Hp15.out
    obtain ⟨q0, q1, q2, q3, q4⟩ := cells5 Hq15.out
    obtain ⟨z0, z1, z2⟩ := cells3v Hz15.out
    clear Hx14 Hy14 Hm14 Hn14 Hp14 Hq14 Hz14 Hu14 Hv14 Ht14 HB14
    go_wp2_with fail
    go_ret
    exact ⟨rfl, HB15.out⟩

end Go.Proofs.Ytbeefnekblepfaa
