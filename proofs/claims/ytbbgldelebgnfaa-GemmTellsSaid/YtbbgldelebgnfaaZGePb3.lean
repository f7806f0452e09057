/-
GemmTells, what isn't right. Conditions: as each says.
-/
import Derived.Test.YtbbgldelebgnfaaZGeN
set_option linter.unusedVariables false
set_option linter.unusedSimpArgs false
set_option linter.unnecessarySimpa false
namespace Go.Proofs.Ytbbgldelebgnfaa
open Go.RowKit
attribute [local go_sem ↓] Go.wp_at_zero Go.wp_at_succ

set_option maxRecDepth 100000 in
set_option maxHeartbeats 4000000 in
theorem gemmTells_bad3 (a b : Nat) (Ax : Option Addr) (nx cx : Nat) (lx : List Nat) (xo xr xk xl : Int) (Ay : Option Addr) (ny cy : Nat) (ly : List Nat) (yo yr yk yl : Int) (Am : Option Addr) (nm cm : Nat) (lm : List Nat) (mo mr mk ml : Int) (w : World) (hAx : Row w Ax (f64s lx)) (hAy : Row w Ay (f64s ly)) (hAm : Row w Am (f64s lm)) (hWx : Wds lx) (hWy : Wds ly) (hWm : Wds lm) (hlx : lx.length = nx) (hly : ly.length = ny) (hlm : lm.length = nm) (hnx : nx ≤ 1000) (hny : ny ≤ 1000) (hnm : nm ≤ 1000) (hG : (greatB nx xr xk || greatB ny yr yk || greatB nm mr mk) = false) (hn0 : nm = 0) (hxo : I64 xo) (hxr : I64 xr) (hxk : I64 xk) (hxl : I64 xl) (hyo : I64 yo) (hyr : I64 yr) (hyk : I64 yk) (hyl : I64 yl) (hmo : I64 mo) (hmr : I64 mr) (hmk : I64 mk) (hml : I64 ml) (h : (matB nx xo xr xk xl && matB ny yo yr yk yl && matB nm mo mr mk ml) = false) :
    Calls Try.prog 3 #[.float .f64 a, mat Ax nx cx xo xr xk xl, mat Ay ny cy yo yr yk yl, .float .f64 b, mat Am nm cm mo mr mk ml, .int .i64 1] w fun e w' => e = .returned (.bool true) ∧ Below w.heap.size w w' := by
  have HGr := Lib.hid (fun W => ggreat_any Ax nx cx xo xr xk xl Ay ny cy yo yr yk yl Am nm cm mo mr mk ml W)
  rw [hG] at HGr
  have HApm := Lib.hid (apart_c Am nm cm lm mo mr mk ml w hAm hlm (by omega))
  have HApx := Lib.hid (apart_c Ax nx cx lx xo xr xk xl w hAx hlx (by omega))
  have HApy := Lib.hid (apart_c Ay ny cy ly yo yr yk yl w hAy hly (by omega))
  have HAllx := Lib.hid (all_c lx nx hWx hlx (by omega))
  have HAlly := Lib.hid (all_c ly ny hWy hly (by omega))
  have HAllm := Lib.hid (all_c lm nm hWm hlm (by omega))
  have HPr := Lib.hid (fun W (g cg gx cx9 gy cy9 : Nat) => gemul_err a b (some ⟨gx, 0, none⟩) nx cx9 xo xr xk xl (some ⟨gy, 0, none⟩) ny cy9 yo yr yk yl (some ⟨g, 0, none⟩) nm cg mo mr mk ml 1 W (by omega) (fun W' _ => gefits_bad (some ⟨gx, 0, none⟩) nx cx9 xo xr xk xl (some ⟨gy, 0, none⟩) ny cy9 yo yr yk yl (some ⟨g, 0, none⟩) nm cg mo mr mk ml W' (by omega) hxo hxr hxk hxl (by omega) hyo hyr hyk hyl (by omega) hmo hmr hmk hml h))
  have HCk := Lib.hid (fun W => gcheck_bad Ax nx cx xo xr xk xl Ay ny cy yo yr yk yl Am nm cm mo mr mk ml 1 W (by omega) hxo hxr hxk hxl (by omega) hyo hyr hyk hyl (by omega) hmo hmr hmk hml h)
  have HAm := Lib.hid hAm
  have HAx := Lib.hid hAx
  have HAy := Lib.hid hAy
  have d1 : decide ((0 : Int) < (nm : Int)) = false := by rw [hn0]; rfl
  have d2 : decide (0 < nm) = false := by rw [hn0]; rfl
  clear hAx hAy hAm hWx hWy hWm hlx hly hlm hnx hny hnm hG hn0 hxo hxr hxk hxl hyo hyr hyk hyl hmo hmr hmk hml h
  unfold mat at *
  go_enter Try.func3, Try.ntmps3
  have Hx0 := Lib.hid (((Blk.new w 25 #[.slice Ax nx cx, .int .i64 xo, .int .i64 xr, .int .i64 xk, .int .i64 xl]).alloc (.cells #[.slice Ay ny cy, .int .i64 yo, .int .i64 yr, .int .i64 yk, .int .i64 yl] 25)).alloc (.cells #[.slice Am nm cm, .int .i64 mo, .int .i64 mr, .int .i64 mk, .int .i64 ml] 25))
  have Hy0 := Lib.hid ((Blk.new_ (w.alloc (.cells #[.slice Ax nx cx, .int .i64 xo, .int .i64 xr, .int .i64 xk, .int .i64 xl] 25)) 25 #[.slice Ay ny cy, .int .i64 yo, .int .i64 yr, .int .i64 yk, .int .i64 yl] (w.heap.size + 1) (by simp)).alloc (.cells #[.slice Am nm cm, .int .i64 mo, .int .i64 mr, .int .i64 mk, .int .i64 ml] 25))
  have Hm0 := Lib.hid (Blk.new_ ((w.alloc (.cells #[.slice Ax nx cx, .int .i64 xo, .int .i64 xr, .int .i64 xk, .int .i64 xl] 25)).alloc (.cells #[.slice Ay ny cy, .int .i64 yo, .int .i64 yr, .int .i64 yk, .int .i64 yl] 25)) 25 #[.slice Am nm cm, .int .i64 mo, .int .i64 mr, .int .i64 mk, .int .i64 ml] (w.heap.size + 1 + 1) (by simp))
  have HB0 := Lib.hid ((((Below.refl w.heap.size w).alloc (Nat.le_refl _) (.cells #[.slice Ax nx cx, .int .i64 xo, .int .i64 xr, .int .i64 xk, .int .i64 xl] 25)).alloc (by simp) (.cells #[.slice Ay ny cy, .int .i64 yo, .int .i64 yr, .int .i64 yk, .int .i64 yl] 25)).alloc (by simp; omega) (.cells #[.slice Am nm cm, .int .i64 mo, .int .i64 mr, .int .i64 mk, .int .i64 ml] 25))
  obtain ⟨x0, x1, x2, x3, x4⟩ := cells5 Hx0.out
  obtain ⟨y0, y1, y2, y3, y4⟩ := cells5 Hy0.out
  obtain ⟨m0, m1, m2, m3, m4⟩ := cells5 Hm0.out
  go_wp2_with fail
  refine (awake11_any _).mono ?_
  rintro e w1 ⟨rfl, hb⟩
  have Hx1 := Lib.hid (Hx0.out.nxt hb)
  have Hy1 := Lib.hid (Hy0.out.nxt hb)
  have Hm1 := Lib.hid (Hm0.out.nxt hb)
  have HB1 := Lib.hid (below_nx HB0.out hb)
  clear hb
  clear x0 x1 x2 x3 x4 y0 y1 y2 y3 y4 m0 m1 m2 m3 m4
  obtain ⟨x0, x1, x2, x3, x4⟩ := cells5 Hx1.out
  obtain ⟨y0, y1, y2, y3, y4⟩ := cells5 Hy1.out
  obtain ⟨m0, m1, m2, m3, m4⟩ := cells5 Hm1.out
  clear Hx0 Hy0 Hm0 HB0
  go_wp2_with fail
  refine (HGr.out _).mono ?_
  rintro e w2 ⟨rfl, hb⟩
  have Hx2 := Lib.hid (Hx1.out.nxt hb)
  have Hy2 := Lib.hid (Hy1.out.nxt hb)
  have Hm2 := Lib.hid (Hm1.out.nxt hb)
  have HB2 := Lib.hid (below_nx HB1.out hb)
  clear hb
  clear x0 x1 x2 x3 x4 y0 y1 y2 y3 y4 m0 m1 m2 m3 m4
  obtain ⟨x0, x1, x2, x3, x4⟩ := cells5 Hx2.out
  obtain ⟨y0, y1, y2, y3, y4⟩ := cells5 Hy2.out
  obtain ⟨m0, m1, m2, m3, m4⟩ := cells5 Hm2.out
  clear Hx1 Hy1 Hm1 HB1
  go_wp2_with fail
  refine wp_region_inv [48, 49, 50, 51, 52, 53, 13, 14, 15] (fun d s W => (d 0 = true → s 48 = .agg #[.slice Ax nx cx, .int .i64 xo, .int .i64 xr, .int .i64 xk, .int .i64 xl]) ∧ (d 1 = true → OwM W (s 49) w2.heap.size lx nx xo xr xk xl) ∧ (d 2 = true → s 50 = .agg #[.slice Ay ny cy, .int .i64 yo, .int .i64 yr, .int .i64 yk, .int .i64 yl]) ∧ (d 3 = true → OwM W (s 51) w2.heap.size ly ny yo yr yk yl) ∧ (d 4 = true → s 52 = .agg #[.slice Am nm cm, .int .i64 mo, .int .i64 mr, .int .i64 mk, .int .i64 ml]) ∧ (d 5 = true → OwM W (s 53) w2.heap.size lm nm mo mr mk ml) ∧ (d 6 = true → NbM W (s 13) w2.heap.size) ∧ (d 7 = true → NbM W (s 14) w2.heap.size) ∧ (d 8 = true → NbM W (s 15) w2.heap.size) ∧ (d 9 = true → PqM W (s 13) (lb (s 49)) w2.heap.size lx nx xo xr xk xl) ∧ (d 10 = true → PqM W (s 14) (lb (s 51)) w2.heap.size ly ny yo yr yk yl) ∧ (d 11 = true → PqM W (s 15) (lb (s 53)) w2.heap.size lm nm mo mr mk ml) ∧ (d 9 = true → d 6 = true) ∧ (d 10 = true → d 7 = true) ∧ (d 11 = true → d 8 = true) ∧ (d 6 = true → d 7 = true → s 13 ≠ s 14) ∧ (d 6 = true → d 8 = true → s 13 ≠ s 15) ∧ (d 7 = true → d 8 = true → s 14 ≠ s 15) ∧ (d 1 = true → d 3 = true → lb (s 49) ≠ lb (s 51)) ∧ (d 1 = true → d 5 = true → lb (s 49) ≠ lb (s 53)) ∧ (d 3 = true → d 5 = true → lb (s 51) ≠ lb (s 53)) ∧ (d 9 = true → d 1 = true) ∧ (d 10 = true → d 3 = true) ∧ (d 11 = true → d 5 = true) ∧ Below w2.heap.size w2 W)
    rfl (by kernel_rfl) ?_ ?_ ?_
  · exact ⟨by simp, by simp, by simp, by simp, by simp, by simp, by simp, by simp, by simp, by simp, by simp, by simp, by simp, by simp, by simp, by simp, by simp, by simp, by simp, by simp, by simp, by simp, by simp, by simp, (Below.refl _ _).drew⟩
  · refine ⟨?_, ?_, ?_, ?_, ?_, ?_, ?_, ?_, ?_, ?_, ?_, ?_, trivial⟩
    all_goals
      intro d s W hJ hfr hd hdep
      simp only [List.mem_cons, forall_eq_or_imp, List.not_mem_nil, false_implies, implies_true, and_true, Region.binds] at hdep
      have f7 := hfr 7 (by decide)
      have f8 := hfr 8 (by decide)
      have f10 := hfr 10 (by decide)
      simp at f7 f8 f10 hdep
      obtain ⟨h0, h1, h2, h3, h4, h5, h6, h7, h8, h9, h10, h11, x0, x1, x2, x3, x4, x5, x6, x7, x8, x9, x10, x11, hT⟩ := hJ
    · as_aux_lemma =>
        unfold OpSteps
        obtain ⟨p0, p1, p2, p3, p4⟩ := cells5 (Hx2.out.below hT Hx2.out.lt)
        simp [go_sem, evS, f7, p0, p1, p2, p3, p4]
        exact ⟨fun _ => by simp [sput], fun h => by simpa [sput] using h1 (by simpa [did] using h), kpw h2, fun h => by simpa [sput] using h3 (by simpa [did] using h), kpw h4, fun h => by simpa [sput] using h5 (by simpa [did] using h), fun h => by simpa [sput] using h6 (by simpa [did] using h), fun h => by simpa [sput] using h7 (by simpa [did] using h), fun h => by simpa [sput] using h8 (by simpa [did] using h), fun h => by simpa [sput] using h9 (by simpa [did] using h), fun h => by simpa [sput] using h10 (by simpa [did] using h), fun h => by simpa [sput] using h11 (by simpa [did] using h), by simpa [sput, did] using x0, by simpa [sput, did] using x1, by simpa [sput, did] using x2, by simpa [sput, did] using x3, by simpa [sput, did] using x4, by simpa [sput, did] using x5, by simpa [sput, did] using x6, by simpa [sput, did] using x7, by simpa [sput, did] using x8, by simpa [sput, did] using x9, by simpa [sput, did] using x10, by simpa [sput, did] using x11, hT⟩
    · as_aux_lemma =>
        have g0 := h0 (by simp [hdep])
        unfold OpSteps
        simp [go_sem, evS, g0]
        refine (HApx.out W (below_nx HB2.out hT)).mono ?_
        rintro e W' ⟨g9, c9, rfl, ho, hg, hb⟩
        refine ⟨_, rfl, ?_⟩
        exact ⟨kpw h0, fun _ => ⟨g9, c9, by simp [sput], ho, Nat.le_trans hT.size hg⟩, kpw h2, fun h => by simpa [sput] using (h3 (by simpa [did] using h)).below hb, kpw h4, fun h => by simpa [sput] using (h5 (by simpa [did] using h)).below hb, fun h => by simpa [sput] using (h6 (by simpa [did] using h)).below hb, fun h => by simpa [sput] using (h7 (by simpa [did] using h)).below hb, fun h => by simpa [sput] using (h8 (by simpa [did] using h)).below hb, fun h => by have := x9 (by simpa [did] using h); simp [hd] at this, fun h => by simpa [sput] using (h10 (by simpa [did] using h)).below hb, fun h => by simpa [sput] using (h11 (by simpa [did] using h)).below hb, by simpa [sput, did] using x0, by simpa [sput, did] using x1, by simpa [sput, did] using x2, by simpa [sput, did] using x3, by simpa [sput, did] using x4, by simpa [sput, did] using x5, fun _ e3 => by have hq := (h3 (by simpa [did] using e3)).lb_lt; simp [sput, lb_mat]; omega, fun _ e3 => by have hq := (h5 (by simpa [did] using e3)).lb_lt; simp [sput, lb_mat]; omega, by simpa [sput, did] using x8, fun _ => by simp [did], by simpa [sput, did] using x10, by simpa [sput, did] using x11, below_nx hT hb⟩
    · as_aux_lemma =>
        unfold OpSteps
        obtain ⟨p0, p1, p2, p3, p4⟩ := cells5 (Hy2.out.below hT Hy2.out.lt)
        simp [go_sem, evS, f8, p0, p1, p2, p3, p4]
        exact ⟨kpw h0, fun h => by simpa [sput] using h1 (by simpa [did] using h), fun _ => by simp [sput], fun h => by simpa [sput] using h3 (by simpa [did] using h), kpw h4, fun h => by simpa [sput] using h5 (by simpa [did] using h), fun h => by simpa [sput] using h6 (by simpa [did] using h), fun h => by simpa [sput] using h7 (by simpa [did] using h), fun h => by simpa [sput] using h8 (by simpa [did] using h), fun h => by simpa [sput] using h9 (by simpa [did] using h), fun h => by simpa [sput] using h10 (by simpa [did] using h), fun h => by simpa [sput] using h11 (by simpa [did] using h), by simpa [sput, did] using x0, by simpa [sput, did] using x1, by simpa [sput, did] using x2, by simpa [sput, did] using x3, by simpa [sput, did] using x4, by simpa [sput, did] using x5, by simpa [sput, did] using x6, by simpa [sput, did] using x7, by simpa [sput, did] using x8, by simpa [sput, did] using x9, by simpa [sput, did] using x10, by simpa [sput, did] using x11, hT⟩
    · as_aux_lemma =>
        have g2 := h2 (by simp [hdep])
        unfold OpSteps
        simp [go_sem, evS, g2]
        refine (HApy.out W (below_nx HB2.out hT)).mono ?_
        rintro e W' ⟨g9, c9, rfl, ho, hg, hb⟩
        refine ⟨_, rfl, ?_⟩
        exact ⟨kpw h0, fun h => by simpa [sput] using (h1 (by simpa [did] using h)).below hb, kpw h2, fun _ => ⟨g9, c9, by simp [sput], ho, Nat.le_trans hT.size hg⟩, kpw h4, fun h => by simpa [sput] using (h5 (by simpa [did] using h)).below hb, fun h => by simpa [sput] using (h6 (by simpa [did] using h)).below hb, fun h => by simpa [sput] using (h7 (by simpa [did] using h)).below hb, fun h => by simpa [sput] using (h8 (by simpa [did] using h)).below hb, fun h => by simpa [sput] using (h9 (by simpa [did] using h)).below hb, fun h => by have := x10 (by simpa [did] using h); simp [hd] at this, fun h => by simpa [sput] using (h11 (by simpa [did] using h)).below hb, by simpa [sput, did] using x0, by simpa [sput, did] using x1, by simpa [sput, did] using x2, by simpa [sput, did] using x3, by simpa [sput, did] using x4, by simpa [sput, did] using x5, fun e1 _ => by have hq := (h1 (by simpa [did] using e1)).lb_lt; simp [sput, lb_mat]; omega, by simpa [sput, did] using x7, fun _ e3 => by have hq := (h5 (by simpa [did] using e3)).lb_lt; simp [sput, lb_mat]; omega, by simpa [sput, did] using x9, fun _ => by simp [did], by simpa [sput, did] using x11, below_nx hT hb⟩
    · as_aux_lemma =>
        unfold OpSteps
        obtain ⟨p0, p1, p2, p3, p4⟩ := cells5 (Hm2.out.below hT Hm2.out.lt)
        simp [go_sem, evS, f10, p0, p1, p2, p3, p4]
        exact ⟨kpw h0, fun h => by simpa [sput] using h1 (by simpa [did] using h), kpw h2, fun h => by simpa [sput] using h3 (by simpa [did] using h), fun _ => by simp [sput], fun h => by simpa [sput] using h5 (by simpa [did] using h), fun h => by simpa [sput] using h6 (by simpa [did] using h), fun h => by simpa [sput] using h7 (by simpa [did] using h), fun h => by simpa [sput] using h8 (by simpa [did] using h), fun h => by simpa [sput] using h9 (by simpa [did] using h), fun h => by simpa [sput] using h10 (by simpa [did] using h), fun h => by simpa [sput] using h11 (by simpa [did] using h), by simpa [sput, did] using x0, by simpa [sput, did] using x1, by simpa [sput, did] using x2, by simpa [sput, did] using x3, by simpa [sput, did] using x4, by simpa [sput, did] using x5, by simpa [sput, did] using x6, by simpa [sput, did] using x7, by simpa [sput, did] using x8, by simpa [sput, did] using x9, by simpa [sput, did] using x10, by simpa [sput, did] using x11, hT⟩
    · as_aux_lemma =>
        have g4 := h4 (by simp [hdep])
        unfold OpSteps
        simp [go_sem, evS, g4]
        refine (HApm.out W (below_nx HB2.out hT)).mono ?_
        rintro e W' ⟨g9, c9, rfl, ho, hg, hb⟩
        refine ⟨_, rfl, ?_⟩
        exact ⟨kpw h0, fun h => by simpa [sput] using (h1 (by simpa [did] using h)).below hb, kpw h2, fun h => by simpa [sput] using (h3 (by simpa [did] using h)).below hb, kpw h4, fun _ => ⟨g9, c9, by simp [sput], ho, Nat.le_trans hT.size hg⟩, fun h => by simpa [sput] using (h6 (by simpa [did] using h)).below hb, fun h => by simpa [sput] using (h7 (by simpa [did] using h)).below hb, fun h => by simpa [sput] using (h8 (by simpa [did] using h)).below hb, fun h => by simpa [sput] using (h9 (by simpa [did] using h)).below hb, fun h => by simpa [sput] using (h10 (by simpa [did] using h)).below hb, fun h => by have := x11 (by simpa [did] using h); simp [hd] at this, by simpa [sput, did] using x0, by simpa [sput, did] using x1, by simpa [sput, did] using x2, by simpa [sput, did] using x3, by simpa [sput, did] using x4, by simpa [sput, did] using x5, by simpa [sput, did] using x6, fun e1 _ => by have hq := (h1 (by simpa [did] using e1)).lb_lt; simp [sput, lb_mat]; omega, fun e1 _ => by have hq := (h3 (by simpa [did] using e1)).lb_lt; simp [sput, lb_mat]; omega, by simpa [sput, did] using x9, by simpa [sput, did] using x10, fun _ => by simp [did], below_nx hT hb⟩
    · as_aux_lemma =>
        unfold OpSteps
        simp [go_sem, evS]
        exact ⟨kpw h0, fun h => by simpa [sput] using (h1 (by simpa [did] using h)).below below_one, kpw h2, fun h => by simpa [sput] using (h3 (by simpa [did] using h)).below below_one, kpw h4, fun h => by simpa [sput] using (h5 (by simpa [did] using h)).below below_one, fun _ => ⟨W.heap.size, _, _, _, _, _, by simp [sput], Blk.new W _ _, hT.size⟩, fun h => by simpa [sput] using (h7 (by simpa [did] using h)).below below_one, fun h => by simpa [sput] using (h8 (by simpa [did] using h)).below below_one, fun h => by have := x0 (by simpa [did] using h); simp [hd] at this, fun h => by simpa [sput] using (h10 (by simpa [did] using h)).below below_one, fun h => by simpa [sput] using (h11 (by simpa [did] using h)).below below_one, fun _ => by simp [did], by simpa [sput, did] using x1, by simpa [sput, did] using x2, fun _ e8 => by have hq := (h7 (by simpa [did] using e8)).new_ne; simp [sput]; exact fun e => hq e.symm, fun _ e8 => by have hq := (h8 (by simpa [did] using e8)).new_ne; simp [sput]; exact fun e => hq e.symm, by simpa [sput, did] using x5, by simpa [sput, did] using x6, by simpa [sput, did] using x7, by simpa [sput, did] using x8, by simpa [sput, did] using x9, by simpa [sput, did] using x10, by simpa [sput, did] using x11, below_al hT⟩
    · as_aux_lemma =>
        unfold OpSteps
        simp [go_sem, evS]
        exact ⟨kpw h0, fun h => by simpa [sput] using (h1 (by simpa [did] using h)).below below_one, kpw h2, fun h => by simpa [sput] using (h3 (by simpa [did] using h)).below below_one, kpw h4, fun h => by simpa [sput] using (h5 (by simpa [did] using h)).below below_one, fun h => by simpa [sput] using (h6 (by simpa [did] using h)).below below_one, fun _ => ⟨W.heap.size, _, _, _, _, _, by simp [sput], Blk.new W _ _, hT.size⟩, fun h => by simpa [sput] using (h8 (by simpa [did] using h)).below below_one, fun h => by simpa [sput] using (h9 (by simpa [did] using h)).below below_one, fun h => by have := x1 (by simpa [did] using h); simp [hd] at this, fun h => by simpa [sput] using (h11 (by simpa [did] using h)).below below_one, by simpa [sput, did] using x0, fun _ => by simp [did], by simpa [sput, did] using x2, fun e7 _ => by have hq := (h6 (by simpa [did] using e7)).new_ne; simp [sput]; exact hq, by simpa [sput, did] using x4, fun _ e8 => by have hq := (h8 (by simpa [did] using e8)).new_ne; simp [sput]; exact fun e => hq e.symm, by simpa [sput, did] using x6, by simpa [sput, did] using x7, by simpa [sput, did] using x8, by simpa [sput, did] using x9, by simpa [sput, did] using x10, by simpa [sput, did] using x11, below_al hT⟩
    · as_aux_lemma =>
        unfold OpSteps
        simp [go_sem, evS]
        exact ⟨kpw h0, fun h => by simpa [sput] using (h1 (by simpa [did] using h)).below below_one, kpw h2, fun h => by simpa [sput] using (h3 (by simpa [did] using h)).below below_one, kpw h4, fun h => by simpa [sput] using (h5 (by simpa [did] using h)).below below_one, fun h => by simpa [sput] using (h6 (by simpa [did] using h)).below below_one, fun h => by simpa [sput] using (h7 (by simpa [did] using h)).below below_one, fun _ => ⟨W.heap.size, _, _, _, _, _, by simp [sput], Blk.new W _ _, hT.size⟩, fun h => by simpa [sput] using (h9 (by simpa [did] using h)).below below_one, fun h => by simpa [sput] using (h10 (by simpa [did] using h)).below below_one, fun h => by have := x2 (by simpa [did] using h); simp [hd] at this, by simpa [sput, did] using x0, by simpa [sput, did] using x1, fun _ => by simp [did], by simpa [sput, did] using x3, fun e7 _ => by have hq := (h6 (by simpa [did] using e7)).new_ne; simp [sput]; exact hq, fun e7 _ => by have hq := (h7 (by simpa [did] using e7)).new_ne; simp [sput]; exact hq, by simpa [sput, did] using x6, by simpa [sput, did] using x7, by simpa [sput, did] using x8, by simpa [sput, did] using x9, by simpa [sput, did] using x10, by simpa [sput, did] using x11, below_al hT⟩
    · as_aux_lemma =>
        have g6 := h6 (by simp [hdep])
        have g1 := h1 (by simp [hdep])
        unfold OpSteps
        obtain ⟨p9, z0, z1, z2, z3, z4, gp, hB9, hlo⟩ := g6
        obtain ⟨g9, c9, gv, gO, gz⟩ := g1
        have e7 : d 6 = true := by simp [hdep]
        obtain ⟨fr0, fr1, fr2, fr3, fr4⟩ := frozen5w hB9
        obtain ⟨k0, k1, k2, k3, k4⟩ := cells5 hB9
        have hfar : ∀ k9, k9 ≠ p9 → _ := fun k9 (hk9 : k9 ≠ p9) => heap_sets5 (w := W) hk9 (.slice (some ⟨g9, 0, none⟩) nx c9) (.int .i64 xo) (.int .i64 xr) (.int .i64 xk) (.int .i64 xl)
        simp [go_sem, evS, gp, gv, fr0, fr1, fr2, fr3, fr4, k0, k1, k2, k3, k4]
        exact ⟨kpw h0, fun h => by simpa [sput] using (h1 (by simpa [did] using h)).far hB9 (by decide) hfar, kpw h2, fun h => by simpa [sput] using (h3 (by simpa [did] using h)).far hB9 (by decide) hfar, kpw h4, fun h => by simpa [sput] using (h5 (by simpa [did] using h)).far hB9 (by decide) hfar, fun h => ⟨p9, _, _, _, _, _, by simpa [sput] using gp, Blk.store5 hB9 _ _ _ _ _, hlo⟩, fun h => by simpa [sput] using (h7 (by simpa [did] using h)).far (fun e => x3 e7 (by simpa [did] using h) (gp.trans e.symm)) hfar, fun h => by simpa [sput] using (h8 (by simpa [did] using h)).far (fun e => x4 e7 (by simpa [did] using h) (gp.trans e.symm)) hfar, fun _ => by simp only [sput, gv, lb_mat]; exact ⟨p9, c9, by simpa using gp, Blk.store5 hB9 _ _ _ _ _, own_off gO (own_ne gO hB9 (by decide)) hfar, hlo, gz⟩, fun h => by simpa [sput] using (h10 (by simpa [did] using h)).far hB9 (by decide) (fun e => x3 e7 (x1 (by simpa [did] using h)) (gp.trans e.symm)) hfar, fun h => by simpa [sput] using (h11 (by simpa [did] using h)).far hB9 (by decide) (fun e => x4 e7 (x2 (by simpa [did] using h)) (gp.trans e.symm)) hfar, fun _ => by simp [did, hdep], by simpa [sput, did] using x1, by simpa [sput, did] using x2, by simpa [sput, did] using x3, by simpa [sput, did] using x4, by simpa [sput, did] using x5, by simpa [sput, did] using x6, by simpa [sput, did] using x7, by simpa [sput, did] using x8, fun _ => by simp [did, hdep], by simpa [sput, did] using x10, by simpa [sput, did] using x11, below_sets5 hT hlo _ _ _ _ _⟩
    · as_aux_lemma =>
        have g7 := h7 (by simp [hdep])
        have g3 := h3 (by simp [hdep])
        unfold OpSteps
        obtain ⟨p9, z0, z1, z2, z3, z4, gp, hB9, hlo⟩ := g7
        obtain ⟨g9, c9, gv, gO, gz⟩ := g3
        have e7 : d 7 = true := by simp [hdep]
        obtain ⟨fr0, fr1, fr2, fr3, fr4⟩ := frozen5w hB9
        obtain ⟨k0, k1, k2, k3, k4⟩ := cells5 hB9
        have hfar : ∀ k9, k9 ≠ p9 → _ := fun k9 (hk9 : k9 ≠ p9) => heap_sets5 (w := W) hk9 (.slice (some ⟨g9, 0, none⟩) ny c9) (.int .i64 yo) (.int .i64 yr) (.int .i64 yk) (.int .i64 yl)
        simp [go_sem, evS, gp, gv, fr0, fr1, fr2, fr3, fr4, k0, k1, k2, k3, k4]
        exact ⟨kpw h0, fun h => by simpa [sput] using (h1 (by simpa [did] using h)).far hB9 (by decide) hfar, kpw h2, fun h => by simpa [sput] using (h3 (by simpa [did] using h)).far hB9 (by decide) hfar, kpw h4, fun h => by simpa [sput] using (h5 (by simpa [did] using h)).far hB9 (by decide) hfar, fun h => by simpa [sput] using (h6 (by simpa [did] using h)).far (fun e => x3 (by simpa [did] using h) e7 (e.trans gp.symm)) hfar, fun h => ⟨p9, _, _, _, _, _, by simpa [sput] using gp, Blk.store5 hB9 _ _ _ _ _, hlo⟩, fun h => by simpa [sput] using (h8 (by simpa [did] using h)).far (fun e => x5 e7 (by simpa [did] using h) (gp.trans e.symm)) hfar, fun h => by simpa [sput] using (h9 (by simpa [did] using h)).far hB9 (by decide) (fun e => x3 (x0 (by simpa [did] using h)) e7 (e.trans gp.symm)) hfar, fun _ => by simp only [sput, gv, lb_mat]; exact ⟨p9, c9, by simpa using gp, Blk.store5 hB9 _ _ _ _ _, own_off gO (own_ne gO hB9 (by decide)) hfar, hlo, gz⟩, fun h => by simpa [sput] using (h11 (by simpa [did] using h)).far hB9 (by decide) (fun e => x5 e7 (x2 (by simpa [did] using h)) (gp.trans e.symm)) hfar, by simpa [sput, did] using x0, fun _ => by simp [did, hdep], by simpa [sput, did] using x2, by simpa [sput, did] using x3, by simpa [sput, did] using x4, by simpa [sput, did] using x5, by simpa [sput, did] using x6, by simpa [sput, did] using x7, by simpa [sput, did] using x8, by simpa [sput, did] using x9, fun _ => by simp [did, hdep], by simpa [sput, did] using x11, below_sets5 hT hlo _ _ _ _ _⟩
    · as_aux_lemma =>
        have g8 := h8 (by simp [hdep])
        have g5 := h5 (by simp [hdep])
        unfold OpSteps
        obtain ⟨p9, z0, z1, z2, z3, z4, gp, hB9, hlo⟩ := g8
        obtain ⟨g9, c9, gv, gO, gz⟩ := g5
        have e7 : d 8 = true := by simp [hdep]
        obtain ⟨fr0, fr1, fr2, fr3, fr4⟩ := frozen5w hB9
        obtain ⟨k0, k1, k2, k3, k4⟩ := cells5 hB9
        have hfar : ∀ k9, k9 ≠ p9 → _ := fun k9 (hk9 : k9 ≠ p9) => heap_sets5 (w := W) hk9 (.slice (some ⟨g9, 0, none⟩) nm c9) (.int .i64 mo) (.int .i64 mr) (.int .i64 mk) (.int .i64 ml)
        simp [go_sem, evS, gp, gv, fr0, fr1, fr2, fr3, fr4, k0, k1, k2, k3, k4]
        exact ⟨kpw h0, fun h => by simpa [sput] using (h1 (by simpa [did] using h)).far hB9 (by decide) hfar, kpw h2, fun h => by simpa [sput] using (h3 (by simpa [did] using h)).far hB9 (by decide) hfar, kpw h4, fun h => by simpa [sput] using (h5 (by simpa [did] using h)).far hB9 (by decide) hfar, fun h => by simpa [sput] using (h6 (by simpa [did] using h)).far (fun e => x4 (by simpa [did] using h) e7 (e.trans gp.symm)) hfar, fun h => by simpa [sput] using (h7 (by simpa [did] using h)).far (fun e => x5 (by simpa [did] using h) e7 (e.trans gp.symm)) hfar, fun h => ⟨p9, _, _, _, _, _, by simpa [sput] using gp, Blk.store5 hB9 _ _ _ _ _, hlo⟩, fun h => by simpa [sput] using (h9 (by simpa [did] using h)).far hB9 (by decide) (fun e => x4 (x0 (by simpa [did] using h)) e7 (e.trans gp.symm)) hfar, fun h => by simpa [sput] using (h10 (by simpa [did] using h)).far hB9 (by decide) (fun e => x5 (x1 (by simpa [did] using h)) e7 (e.trans gp.symm)) hfar, fun _ => by simp only [sput, gv, lb_mat]; exact ⟨p9, c9, by simpa using gp, Blk.store5 hB9 _ _ _ _ _, own_off gO (own_ne gO hB9 (by decide)) hfar, hlo, gz⟩, by simpa [sput, did] using x0, by simpa [sput, did] using x1, fun _ => by simp [did, hdep], by simpa [sput, did] using x3, by simpa [sput, did] using x4, by simpa [sput, did] using x5, by simpa [sput, did] using x6, by simpa [sput, did] using x7, by simpa [sput, did] using x8, by simpa [sput, did] using x9, by simpa [sput, did] using x10, fun _ => by simp [did, hdep], below_sets5 hT hlo _ _ _ _ _⟩
  intro d s W hJ hd
  obtain ⟨h0, h1, h2, h3, h4, h5, h6, h7, h8, h9, h10, h11, x0, x1, x2, x3, x4, x5, x6, x7, x8, x9, x10, x11, hT⟩ := hJ
  have hgxy := x6 (hd 1 (by decide)) (hd 3 (by decide))
  have hgxm := x7 (hd 1 (by decide)) (hd 5 (by decide))
  have hgym := x8 (hd 3 (by decide)) (hd 5 (by decide))
  have h9' := h9 (hd 9 (by decide))
  have h10' := h10 (hd 10 (by decide))
  have h11' := h11 (hd 11 (by decide))
  have hpxy := x3 (hd 6 (by decide)) (hd 7 (by decide))
  have hpxm := x4 (hd 6 (by decide)) (hd 8 (by decide))
  have hpym := x5 (hd 7 (by decide)) (hd 8 (by decide))
  clear h0 h1 h2 h3 h4 h5 h6 h7 h8 h9 h10 h11 x0 x1 x2 x3 x4 x5 x6 x7 x8 x9 x10 x11 hd
  generalize lb (s 49) = gp at *
  generalize lb (s 51) = gq at *
  generalize lb (s 53) = gn at *
  obtain ⟨pp, cp9, hs11, hBp, hOp, hpl, hgl2⟩ := h9'
  obtain ⟨pq, cq9, hs12, hBq, hOq, hql, hgl3⟩ := h10'
  obtain ⟨pn, cn, hs13, hBn, hOn, hnl, hgl⟩ := h11'
  have hpq : pp ≠ pq := fun e => hpxy (by rw [hs11, hs12, e])
  have hnp : pn ≠ pp := fun e => hpxm (by rw [hs11, hs13, e])
  have hnq : pn ≠ pq := fun e => hpym (by rw [hs12, hs13, e])
  have hb : Below w2.heap.size w2 W := hT
  clear hpxy hpxm hpym hT
  simp [setAll, hs11, hs12, hs13]
  clear hs11 hs12 hs13
  generalize s 48 = s48
  generalize s 49 = s49
  generalize s 50 = s50
  generalize s 51 = s51
  generalize s 52 = s52
  generalize s 53 = s53
  have hy5 : w.heap.size + 1 + 1 < w2.heap.size := Hm2.out.lt
  have HNe := Lib.hid (show gp ≠ gn ∧ gq ≠ gn ∧ gp ≠ gq ∧ pp ≠ pq ∧ pn ≠ pp ∧ pn ≠ pq ∧ w.heap.size + 1 + 1 < pn ∧ w.heap.size + 1 + 1 < pp ∧ w.heap.size + 1 + 1 < pq ∧ w.heap.size + 1 + 1 < gn from by refine ⟨hgxm, hgym, hgxy, hpq, hnp, hnq, by omega, by omega, by omega, by omega⟩)
  clear hy5 hpq hnp hnq hgxy hgxm hgym hnl hgl hpl hgl2 hql hgl3
  generalize hW6 : W = w6 at *
  clear hW6
  have Hx3 := Lib.hid (Hx2.out.nxt hb)
  have Hy3 := Lib.hid (Hy2.out.nxt hb)
  have Hm3 := Lib.hid (Hm2.out.nxt hb)
  have HB3 := Lib.hid (below_nx HB2.out hb)
  clear hb
  clear x0 x1 x2 x3 x4 y0 y1 y2 y3 y4 m0 m1 m2 m3 m4
  obtain ⟨x0, x1, x2, x3, x4⟩ := cells5 Hx3.out
  obtain ⟨y0, y1, y2, y3, y4⟩ := cells5 Hy3.out
  obtain ⟨m0, m1, m2, m3, m4⟩ := cells5 Hm3.out
  clear Hx2 Hy2 Hm2 HB2
  have Hn3 := Lib.hid hBn
  have Hp3 := Lib.hid hBp
  have Hq3 := Lib.hid hBq
  have Hu3 := Lib.hid hOn
  have Hv3 := Lib.hid hOp
  have Ht3 := Lib.hid hOq
  clear hBn hBp hBq hOn hOp hOq
  clear x0 x1 x2 x3 x4 y0 y1 y2 y3 y4 m0 m1 m2 m3 m4
  clear HApm HApx HApy HGr
  obtain ⟨x0, x1, x2, x3, x4⟩ := cells5 Hx3.out
  obtain ⟨y0, y1, y2, y3, y4⟩ := cells5 Hy3.out
  obtain ⟨m0, m1, m2, m3, m4⟩ := cells5 Hm3.out
  obtain ⟨n0, n1, n2, n3, n4⟩ := cells5 Hn3.out
  obtain ⟨p0, p1, p2, p3, p4⟩ := cells5 Hp3.out
  obtain ⟨q0, q1, q2, q3, q4⟩ := cells5 Hq3.out
  go_wp2_with fail
  refine (HPr.out _ gn cn gp cp9 gq cq9).mono ?_
  rintro e w8 ⟨rfl, hb⟩
  have Hx4 := Lib.hid (Hx3.out.nxt hb)
  have Hy4 := Lib.hid (Hy3.out.nxt hb)
  have Hm4 := Lib.hid (Hm3.out.nxt hb)
  have Hn4 := Lib.hid (Hn3.out.nxt hb)
  have Hp4 := Lib.hid (Hp3.out.nxt hb)
  have Hq4 := Lib.hid (Hq3.out.nxt hb)
  have Hu4 := Lib.hid (Hu3.out.nxt hb)
  have Hv4 := Lib.hid (Hv3.out.nxt hb)
  have Ht4 := Lib.hid (Ht3.out.nxt hb)
  have HB4 := Lib.hid (below_nx HB3.out hb)
  clear hb
  clear x0 x1 x2 x3 x4 y0 y1 y2 y3 y4 m0 m1 m2 m3 m4 n0 n1 n2 n3 n4 p0 p1 p2 p3 p4 q0 q1 q2 q3 q4
  obtain ⟨x0, x1, x2, x3, x4⟩ := cells5 Hx4.out
  obtain ⟨y0, y1, y2, y3, y4⟩ := cells5 Hy4.out
  obtain ⟨m0, m1, m2, m3, m4⟩ := cells5 Hm4.out
  obtain ⟨n0, n1, n2, n3, n4⟩ := cells5 Hn4.out
  obtain ⟨p0, p1, p2, p3, p4⟩ := cells5 Hp4.out
  obtain ⟨q0, q1, q2, q3, q4⟩ := cells5 Hq4.out
  clear Hx3 Hy3 Hm3 Hn3 Hp3 Hq3 Hu3 Hv3 Ht3 HB3
  go_wp2_with fail
  refine (HCk.out _).mono ?_
  rintro e we0 ⟨rfl, hb⟩
  have Hx5 := Lib.hid (Hx4.out.nxt hb)
  have Hy5 := Lib.hid (Hy4.out.nxt hb)
  have Hm5 := Lib.hid (Hm4.out.nxt hb)
  have Hn5 := Lib.hid (Hn4.out.nxt hb)
  have Hp5 := Lib.hid (Hp4.out.nxt hb)
  have Hq5 := Lib.hid (Hq4.out.nxt hb)
  have Hu5 := Lib.hid (Hu4.out.nxt hb)
  have Hv5 := Lib.hid (Hv4.out.nxt hb)
  have Ht5 := Lib.hid (Ht4.out.nxt hb)
  have HB5 := Lib.hid (below_nx HB4.out hb)
  clear hb
  clear x0 x1 x2 x3 x4 y0 y1 y2 y3 y4 m0 m1 m2 m3 m4 n0 n1 n2 n3 n4 p0 p1 p2 p3 p4 q0 q1 q2 q3 q4
  obtain ⟨x0, x1, x2, x3, x4⟩ := cells5 Hx5.out
  obtain ⟨y0, y1, y2, y3, y4⟩ := cells5 Hy5.out
  obtain ⟨m0, m1, m2, m3, m4⟩ := cells5 Hm5.out
  obtain ⟨n0, n1, n2, n3, n4⟩ := cells5 Hn5.out
  obtain ⟨p0, p1, p2, p3, p4⟩ := cells5 Hp5.out
  obtain ⟨q0, q1, q2, q3, q4⟩ := cells5 Hq5.out
  clear Hx4 Hy4 Hm4 Hn4 Hp4 Hq4 Hu4 Hv4 Ht4 HB4
  go_wp2_with fail
  refine (HAllx.out _ _ _ _ _ Hv5.out.row (HAx.out.below HB5.out)).mono ?_
  rintro e wa0 ⟨rfl, hb⟩
  have Hx6 := Lib.hid (Hx5.out.nxt hb)
  have Hy6 := Lib.hid (Hy5.out.nxt hb)
  have Hm6 := Lib.hid (Hm5.out.nxt hb)
  have Hn6 := Lib.hid (Hn5.out.nxt hb)
  have Hp6 := Lib.hid (Hp5.out.nxt hb)
  have Hq6 := Lib.hid (Hq5.out.nxt hb)
  have Hu6 := Lib.hid (Hu5.out.nxt hb)
  have Hv6 := Lib.hid (Hv5.out.nxt hb)
  have Ht6 := Lib.hid (Ht5.out.nxt hb)
  have HB6 := Lib.hid (below_nx HB5.out hb)
  clear hb
  clear x0 x1 x2 x3 x4 y0 y1 y2 y3 y4 m0 m1 m2 m3 m4 n0 n1 n2 n3 n4 p0 p1 p2 p3 p4 q0 q1 q2 q3 q4
  obtain ⟨x0, x1, x2, x3, x4⟩ := cells5 Hx6.out
  obtain ⟨y0, y1, y2, y3, y4⟩ := cells5 Hy6.out
  obtain ⟨m0, m1, m2, m3, m4⟩ := cells5 Hm6.out
  obtain ⟨n0, n1, n2, n3, n4⟩ := cells5 Hn6.out
  obtain ⟨p0, p1, p2, p3, p4⟩ := cells5 Hp6.out
  obtain ⟨q0, q1, q2, q3, q4⟩ := cells5 Hq6.out
  clear Hx5 Hy5 Hm5 Hn5 Hp5 Hq5 Hu5 Hv5 Ht5 HB5
  go_wp2_with fail
  refine (HAlly.out _ _ _ _ _ Ht6.out.row (HAy.out.below HB6.out)).mono ?_
  rintro e wb0 ⟨rfl, hb⟩
  have Hx7 := Lib.hid (Hx6.out.nxt hb)
  have Hy7 := Lib.hid (Hy6.out.nxt hb)
  have Hm7 := Lib.hid (Hm6.out.nxt hb)
  have Hn7 := Lib.hid (Hn6.out.nxt hb)
  have Hp7 := Lib.hid (Hp6.out.nxt hb)
  have Hq7 := Lib.hid (Hq6.out.nxt hb)
  have Hu7 := Lib.hid (Hu6.out.nxt hb)
  have Hv7 := Lib.hid (Hv6.out.nxt hb)
  have Ht7 := Lib.hid (Ht6.out.nxt hb)
  have HB7 := Lib.hid (below_nx HB6.out hb)
  clear hb
  clear x0 x1 x2 x3 x4 y0 y1 y2 y3 y4 m0 m1 m2 m3 m4 n0 n1 n2 n3 n4 p0 p1 p2 p3 p4 q0 q1 q2 q3 q4
  obtain ⟨x0, x1, x2, x3, x4⟩ := cells5 Hx7.out
  obtain ⟨y0, y1, y2, y3, y4⟩ := cells5 Hy7.out
  obtain ⟨m0, m1, m2, m3, m4⟩ := cells5 Hm7.out
  obtain ⟨n0, n1, n2, n3, n4⟩ := cells5 Hn7.out
  obtain ⟨p0, p1, p2, p3, p4⟩ := cells5 Hp7.out
  obtain ⟨q0, q1, q2, q3, q4⟩ := cells5 Hq7.out
  clear Hx6 Hy6 Hm6 Hn6 Hp6 Hq6 Hu6 Hv6 Ht6 HB6
  go_wp2_with fail
  refine (HAllm.out _ _ _ _ _ Hu7.out.row (HAm.out.below HB7.out)).mono ?_
  rintro e wc0 ⟨rfl, hb⟩
  have Hx8 := Lib.hid (Hx7.out.nxt hb)
  have Hy8 := Lib.hid (Hy7.out.nxt hb)
  have Hm8 := Lib.hid (Hm7.out.nxt hb)
  have Hn8 := Lib.hid (Hn7.out.nxt hb)
  have Hp8 := Lib.hid (Hp7.out.nxt hb)
  have Hq8 := Lib.hid (Hq7.out.nxt hb)
  have Hu8 := Lib.hid (Hu7.out.nxt hb)
  have Hv8 := Lib.hid (Hv7.out.nxt hb)
  have Ht8 := Lib.hid (Ht7.out.nxt hb)
  have HB8 := Lib.hid (below_nx HB7.out hb)
  clear hb
  clear x0 x1 x2 x3 x4 y0 y1 y2 y3 y4 m0 m1 m2 m3 m4 n0 n1 n2 n3 n4 p0 p1 p2 p3 p4 q0 q1 q2 q3 q4
  obtain ⟨x0, x1, x2, x3, x4⟩ := cells5 Hx8.out
  obtain ⟨y0, y1, y2, y3, y4⟩ := cells5 Hy8.out
  obtain ⟨m0, m1, m2, m3, m4⟩ := cells5 Hm8.out
  obtain ⟨n0, n1, n2, n3, n4⟩ := cells5 Hn8.out
  obtain ⟨p0, p1, p2, p3, p4⟩ := cells5 Hp8.out
  obtain ⟨q0, q1, q2, q3, q4⟩ := cells5 Hq8.out
  clear Hx7 Hy7 Hm7 Hn7 Hp7 Hq7 Hu7 Hv7 Ht7 HB7
  go_wp2_with fail
  refine (awake11_any _).mono ?_
  rintro e wd0 ⟨rfl, hb⟩
  have Hx9 := Lib.hid (Hx8.out.nxt hb)
  have Hy9 := Lib.hid (Hy8.out.nxt hb)
  have Hm9 := Lib.hid (Hm8.out.nxt hb)
  have Hn9 := Lib.hid (Hn8.out.nxt hb)
  have Hp9 := Lib.hid (Hp8.out.nxt hb)
  have Hq9 := Lib.hid (Hq8.out.nxt hb)
  have Hu9 := Lib.hid (Hu8.out.nxt hb)
  have Hv9 := Lib.hid (Hv8.out.nxt hb)
  have Ht9 := Lib.hid (Ht8.out.nxt hb)
  have HB9 := Lib.hid (below_nx HB8.out hb)
  clear hb
  clear x0 x1 x2 x3 x4 y0 y1 y2 y3 y4 m0 m1 m2 m3 m4 n0 n1 n2 n3 n4 p0 p1 p2 p3 p4 q0 q1 q2 q3 q4
  obtain ⟨x0, x1, x2, x3, x4⟩ := cells5 Hx9.out
  obtain ⟨y0, y1, y2, y3, y4⟩ := cells5 Hy9.out
  obtain ⟨m0, m1, m2, m3, m4⟩ := cells5 Hm9.out
  obtain ⟨n0, n1, n2, n3, n4⟩ := cells5 Hn9.out
  obtain ⟨p0, p1, p2, p3, p4⟩ := cells5 Hp9.out
  obtain ⟨q0, q1, q2, q3, q4⟩ := cells5 Hq9.out
  clear Hx8 Hy8 Hm8 Hn8 Hp8 Hq8 Hu8 Hv8 Ht8 HB8
  go_wp2_with fail
  go_ret
  exact ⟨rfl, HB9.out⟩

end Go.Proofs.Ytbbgldelebgnfaa
