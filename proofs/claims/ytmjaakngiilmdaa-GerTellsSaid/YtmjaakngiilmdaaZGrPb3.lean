/-
GerTells, what isn't right. Conditions: as each says.
-/
import Derived.Test.YtmjaakngiilmdaaZGrM
set_option linter.unusedVariables false
set_option linter.unusedSimpArgs false
set_option linter.unnecessarySimpa false
namespace Go.Proofs.Ytmjaakngiilmdaa
open Go.RowKit
attribute [local go_sem ↓] Go.wp_at_zero Go.wp_at_succ

set_option maxRecDepth 100000 in
set_option maxHeartbeats 4000000 in
theorem gerTells_bad3 (a : Nat) (Ax : Option Addr) (nx cx : Nat) (lx : List Nat) (xo xk xi : Int) (Ay : Option Addr) (ny cy : Nat) (ly : List Nat) (yo yk yi : Int) (Am : Option Addr) (nm cm : Nat) (lm : List Nat) (mo mr mk ml : Int) (w : World) (hAx : Row w Ax (f64s lx)) (hAy : Row w Ay (f64s ly)) (hAm : Row w Am (f64s lm)) (hWx : Wds lx) (hWy : Wds ly) (hWm : Wds lm) (hlx : lx.length = nx) (hly : ly.length = ny) (hlm : lm.length = nm) (hnx : nx ≤ 1000) (hny : ny ≤ 1000) (hnm : nm ≤ 1000) (hG : greatB nm mr mk = false) (hLx : longB nx xk = false) (hLy : longB ny yk = false) (hn0 : nm = 0) (hxo : I64 xo) (hxk : I64 xk) (hxi : I64 xi) (hyo : I64 yo) (hyk : I64 yk) (hyi : I64 yi) (hmo : I64 mo) (hmr : I64 mr) (hmk : I64 mk) (hml : I64 ml) (h : (vecB nx xo xk xi && vecB ny yo yk yi && matB nm mo mr mk ml) = false) :
    Calls Try.prog 4 #[.float .f64 a, vec Ax nx cx xo xk xi, vec Ay ny cy yo yk yi, mat Am nm cm mo mr mk ml, .int .i64 1] w fun e w' => e = .returned (.bool true) ∧ Below w.heap.size w w' := by
  have HGr := Lib.hid (fun W => great_any Am nm cm mo mr mk ml W)
  have HLx := Lib.hid (fun W => long_any Ax nx cx xo xk xi W)
  have HLy := Lib.hid (fun W => long_any Ay ny cy yo yk yi W)
  rw [hG] at HGr
  rw [hLx] at HLx
  rw [hLy] at HLy
  have HAp := Lib.hid (apart_c Am nm cm lm mo mr mk ml w hAm hlm (by omega))
  have HAlx := Lib.hid (alone_c Ax nx cx lx xo xk xi w hAx hlx (by omega))
  have HAly := Lib.hid (alone_c Ay ny cy ly yo yk yi w hAy hly (by omega))
  have HRx := Lib.hid (fun W => rright_any Ax nx cx xo xk xi W (by omega) hxo hxk hxi)
  have HRy := Lib.hid (fun W => rright_any Ay ny cy yo yk yi W (by omega) hyo hyk hyi)
  have HGm := Lib.hid (fun W => rgood_any Am nm cm mo mr mk ml W (by omega) hmo hmr hmk hml)
  have HAllm := Lib.hid (all_c lm nm hWm hlm (by omega))
  have HAllx := Lib.hid (all_c lx nx hWx hlx (by omega))
  have HAlly := Lib.hid (all_c ly ny hWy hly (by omega))
  have HPr := Lib.hid (fun W (g cg gx cx9 gy cy9 : Nat) => grger_bad a (some ⟨gx, 0, none⟩) nx cx9 xo xk xi (some ⟨gy, 0, none⟩) ny cy9 yo yk yi (some ⟨g, 0, none⟩) nm cg mo mr mk ml W (by omega) hxo hxk hxi (by omega) hyo hyk hyi (by omega) hmo hmr hmk hml h)
  generalize vecB nx xo xk xi = b1 at *
  generalize vecB ny yo yk yi = b2 at *
  generalize matB nm mo mr mk ml = b3 at *
  have HAm := Lib.hid hAm
  have HAx := Lib.hid hAx
  have HAy := Lib.hid hAy
  have d1 : decide ((0 : Int) < (nm : Int)) = false := by rw [hn0]; rfl
  have d2 : decide (0 < nm) = false := by rw [hn0]; rfl
  have HZ0 := Lib.hid hn0
  clear hAx hAy hAm hWx hWy hWm hlx hly hlm hnx hny hnm hG hLx hLy hn0 hxo hxk hxi hyo hyk hyi hmo hmr hmk hml
  unfold mat vec at *
  go_enter Try.func4, Try.ntmps4
  have Hx0 := Lib.hid (((Blk.new w 32 #[.slice Ax nx cx, .int .i64 xo, .int .i64 xk, .int .i64 xi]).alloc (.cells #[.slice Ay ny cy, .int .i64 yo, .int .i64 yk, .int .i64 yi] 32)).alloc (.cells #[.slice Am nm cm, .int .i64 mo, .int .i64 mr, .int .i64 mk, .int .i64 ml] 26))
  have Hy0 := Lib.hid ((Blk.new_ (w.alloc (.cells #[.slice Ax nx cx, .int .i64 xo, .int .i64 xk, .int .i64 xi] 32)) 32 #[.slice Ay ny cy, .int .i64 yo, .int .i64 yk, .int .i64 yi] (w.heap.size + 1) (by simp)).alloc (.cells #[.slice Am nm cm, .int .i64 mo, .int .i64 mr, .int .i64 mk, .int .i64 ml] 26))
  have Hm0 := Lib.hid (Blk.new_ ((w.alloc (.cells #[.slice Ax nx cx, .int .i64 xo, .int .i64 xk, .int .i64 xi] 32)).alloc (.cells #[.slice Ay ny cy, .int .i64 yo, .int .i64 yk, .int .i64 yi] 32)) 26 #[.slice Am nm cm, .int .i64 mo, .int .i64 mr, .int .i64 mk, .int .i64 ml] (w.heap.size + 1 + 1) (by simp))
  have HB0 := Lib.hid ((((Below.refl w.heap.size w).alloc (Nat.le_refl _) (.cells #[.slice Ax nx cx, .int .i64 xo, .int .i64 xk, .int .i64 xi] 32)).alloc (by simp) (.cells #[.slice Ay ny cy, .int .i64 yo, .int .i64 yk, .int .i64 yi] 32)).alloc (by simp; omega) (.cells #[.slice Am nm cm, .int .i64 mo, .int .i64 mr, .int .i64 mk, .int .i64 ml] 26))
  obtain ⟨x0, x1, x2, x3⟩ := cells4w Hx0.out
  obtain ⟨y0, y1, y2, y3⟩ := cells4w Hy0.out
  obtain ⟨m0, m1, m2, m3, m4⟩ := cells5 Hm0.out
  go_wp2_with fail
  refine (awake8_any _).mono ?_
  rintro e w1 ⟨rfl, hb⟩
  have Hx1 := Lib.hid (Hx0.out.nxt hb)
  have Hy1 := Lib.hid (Hy0.out.nxt hb)
  have Hm1 := Lib.hid (Hm0.out.nxt hb)
  have HB1 := Lib.hid (below_nx HB0.out hb)
  clear hb
  clear x0 x1 x2 x3 y0 y1 y2 y3 m0 m1 m2 m3 m4
  obtain ⟨x0, x1, x2, x3⟩ := cells4w Hx1.out
  obtain ⟨y0, y1, y2, y3⟩ := cells4w Hy1.out
  obtain ⟨m0, m1, m2, m3, m4⟩ := cells5 Hm1.out
  clear Hx0 Hy0 Hm0 HB0
  go_wp2_with fail
  refine (HGr.out _).mono ?_
  rintro e w2 ⟨rfl, hb⟩
  have Hx2 := Lib.hid (Hx1.out.nxt hb)
  have Hy2 := Lib.hid (Hy1.out.nxt hb)
  have Hm2 := Lib.hid (Hm1.out.nxt hb)
  have HB2 := Lib.hid (below_nx HB1.out hb)
  clear hb
  clear x0 x1 x2 x3 y0 y1 y2 y3 m0 m1 m2 m3 m4
  obtain ⟨x0, x1, x2, x3⟩ := cells4w Hx2.out
  obtain ⟨y0, y1, y2, y3⟩ := cells4w Hy2.out
  obtain ⟨m0, m1, m2, m3, m4⟩ := cells5 Hm2.out
  clear Hx1 Hy1 Hm1 HB1
  go_wp2_with fail
  refine (HLx.out _).mono ?_
  rintro e w3 ⟨rfl, hb⟩
  have Hx3 := Lib.hid (Hx2.out.nxt hb)
  have Hy3 := Lib.hid (Hy2.out.nxt hb)
  have Hm3 := Lib.hid (Hm2.out.nxt hb)
  have HB3 := Lib.hid (below_nx HB2.out hb)
  clear hb
  clear x0 x1 x2 x3 y0 y1 y2 y3 m0 m1 m2 m3 m4
  obtain ⟨x0, x1, x2, x3⟩ := cells4w Hx3.out
  obtain ⟨y0, y1, y2, y3⟩ := cells4w Hy3.out
  obtain ⟨m0, m1, m2, m3, m4⟩ := cells5 Hm3.out
  clear Hx2 Hy2 Hm2 HB2
  go_wp2_with fail
  refine (HLy.out _).mono ?_
  rintro e w4 ⟨rfl, hb⟩
  have Hx4 := Lib.hid (Hx3.out.nxt hb)
  have Hy4 := Lib.hid (Hy3.out.nxt hb)
  have Hm4 := Lib.hid (Hm3.out.nxt hb)
  have HB4 := Lib.hid (below_nx HB3.out hb)
  clear hb
  clear x0 x1 x2 x3 y0 y1 y2 y3 m0 m1 m2 m3 m4
  obtain ⟨x0, x1, x2, x3⟩ := cells4w Hx4.out
  obtain ⟨y0, y1, y2, y3⟩ := cells4w Hy4.out
  obtain ⟨m0, m1, m2, m3, m4⟩ := cells5 Hm4.out
  clear Hx3 Hy3 Hm3 HB3
  go_wp2_with fail
  refine wp_region_inv [58, 59, 60, 61, 62, 63, 11, 12, 13] (fun d s W => (d 0 = true → s 58 = .agg #[.slice Am nm cm, .int .i64 mo, .int .i64 mr, .int .i64 mk, .int .i64 ml]) ∧ (d 1 = true → OwM W (s 59) w4.heap.size lm nm mo mr mk ml) ∧ (d 2 = true → s 60 = .agg #[.slice Ax nx cx, .int .i64 xo, .int .i64 xk, .int .i64 xi]) ∧ (d 3 = true → OwV W (s 61) w4.heap.size lx nx xo xk xi) ∧ (d 4 = true → s 62 = .agg #[.slice Ay ny cy, .int .i64 yo, .int .i64 yk, .int .i64 yi]) ∧ (d 5 = true → OwV W (s 63) w4.heap.size ly ny yo yk yi) ∧ (d 6 = true → NbM W (s 11) w4.heap.size) ∧ (d 7 = true → NbV W (s 12) w4.heap.size) ∧ (d 8 = true → NbV W (s 13) w4.heap.size) ∧ (d 9 = true → PqM W (s 11) (lb (s 59)) w4.heap.size lm nm mo mr mk ml) ∧ (d 10 = true → PqV W (s 12) (lb (s 61)) w4.heap.size lx nx xo xk xi) ∧ (d 11 = true → PqV W (s 13) (lb (s 63)) w4.heap.size ly ny yo yk yi) ∧ (d 9 = true → d 6 = true) ∧ (d 10 = true → d 7 = true) ∧ (d 11 = true → d 8 = true) ∧ (d 7 = true → d 8 = true → s 12 ≠ s 13) ∧ (d 1 = true → d 3 = true → lb (s 59) ≠ lb (s 61)) ∧ (d 1 = true → d 5 = true → lb (s 59) ≠ lb (s 63)) ∧ (d 9 = true → d 1 = true) ∧ (d 10 = true → d 3 = true) ∧ (d 11 = true → d 5 = true) ∧ Below w4.heap.size w4 W)
    rfl (by kernel_rfl) ?_ ?_ ?_
  · exact ⟨by simp, by simp, by simp, by simp, by simp, by simp, by simp, by simp, by simp, by simp, by simp, by simp, by simp, by simp, by simp, by simp, by simp, by simp, by simp, by simp, by simp, (Below.refl _ _).drew⟩
  · refine ⟨?_, ?_, ?_, ?_, ?_, ?_, ?_, ?_, ?_, ?_, ?_, ?_, trivial⟩
    all_goals
      intro d s W hJ hfr hd hdep
      simp only [List.mem_cons, forall_eq_or_imp, List.not_mem_nil, false_implies, implies_true, and_true, Region.binds] at hdep
      have f6 := hfr 6 (by decide)
      have f7 := hfr 7 (by decide)
      have f8 := hfr 8 (by decide)
      simp at f6 f7 f8 hdep
      obtain ⟨h0, h1, h2, h3, h4, h5, h6, h7, h8, h9, h10, h11, x0, x1, x2, x3, x4, x5, x6, x7, x8, hT⟩ := hJ
    · as_aux_lemma =>
        unfold OpSteps
        obtain ⟨p0, p1, p2, p3, p4⟩ := cells5 (Hm4.out.below hT Hm4.out.lt)
        simp [go_sem, evS, f8, p0, p1, p2, p3, p4]
        exact ⟨fun _ => by simp [sput], fun h => by simpa [sput] using h1 (by simpa [did] using h), kpw h2, fun h => by simpa [sput] using h3 (by simpa [did] using h), kpw h4, fun h => by simpa [sput] using h5 (by simpa [did] using h), fun h => by simpa [sput] using h6 (by simpa [did] using h), fun h => by simpa [sput] using h7 (by simpa [did] using h), fun h => by simpa [sput] using h8 (by simpa [did] using h), fun h => by simpa [sput] using h9 (by simpa [did] using h), fun h => by simpa [sput] using h10 (by simpa [did] using h), fun h => by simpa [sput] using h11 (by simpa [did] using h), by simpa [sput, did] using x0, by simpa [sput, did] using x1, by simpa [sput, did] using x2, by simpa [sput, did] using x3, by simpa [sput, did] using x4, by simpa [sput, did] using x5, by simpa [sput, did] using x6, by simpa [sput, did] using x7, by simpa [sput, did] using x8, hT⟩
    · as_aux_lemma =>
        have g0 := h0 (by simp [hdep])
        unfold OpSteps
        simp [go_sem, evS, g0]
        refine (HAp.out W (below_nx HB4.out hT)).mono ?_
        rintro e W' ⟨g9, c9, rfl, ho, hg, hb⟩
        refine ⟨_, rfl, ?_⟩
        exact ⟨kpw h0, fun _ => ⟨g9, c9, by simp [sput], ho, Nat.le_trans hT.size hg⟩, kpw h2, fun h => by simpa [sput] using (h3 (by simpa [did] using h)).below hb, kpw h4, fun h => by simpa [sput] using (h5 (by simpa [did] using h)).below hb, fun h => by simpa [sput] using (h6 (by simpa [did] using h)).below hb, fun h => by simpa [sput] using (h7 (by simpa [did] using h)).below hb, fun h => by simpa [sput] using (h8 (by simpa [did] using h)).below hb, fun h => by have := x6 (by simpa [did] using h); simp [hd] at this, fun h => by simpa [sput] using (h10 (by simpa [did] using h)).below hb, fun h => by simpa [sput] using (h11 (by simpa [did] using h)).below hb, by simpa [sput, did] using x0, by simpa [sput, did] using x1, by simpa [sput, did] using x2, by simpa [sput, did] using x3, fun _ e3 => by have hq := (h3 (by simpa [did] using e3)).lb_lt; simp [sput, lb_mat]; omega, fun _ e3 => by have hq := (h5 (by simpa [did] using e3)).lb_lt; simp [sput, lb_mat]; omega, fun _ => by simp [did], by simpa [sput, did] using x7, by simpa [sput, did] using x8, below_nx hT hb⟩
    · as_aux_lemma =>
        unfold OpSteps
        obtain ⟨p0, p1, p2, p3⟩ := cells4w (Hx4.out.below hT Hx4.out.lt)
        simp [go_sem, evS, f6, p0, p1, p2, p3]
        exact ⟨kpw h0, fun h => by simpa [sput] using h1 (by simpa [did] using h), fun _ => by simp [sput], fun h => by simpa [sput] using h3 (by simpa [did] using h), kpw h4, fun h => by simpa [sput] using h5 (by simpa [did] using h), fun h => by simpa [sput] using h6 (by simpa [did] using h), fun h => by simpa [sput] using h7 (by simpa [did] using h), fun h => by simpa [sput] using h8 (by simpa [did] using h), fun h => by simpa [sput] using h9 (by simpa [did] using h), fun h => by simpa [sput] using h10 (by simpa [did] using h), fun h => by simpa [sput] using h11 (by simpa [did] using h), by simpa [sput, did] using x0, by simpa [sput, did] using x1, by simpa [sput, did] using x2, by simpa [sput, did] using x3, by simpa [sput, did] using x4, by simpa [sput, did] using x5, by simpa [sput, did] using x6, by simpa [sput, did] using x7, by simpa [sput, did] using x8, hT⟩
    · as_aux_lemma =>
        have g2 := h2 (by simp [hdep])
        unfold OpSteps
        simp [go_sem, evS, g2]
        refine (HAlx.out W (below_nx HB4.out hT)).mono ?_
        rintro e W' ⟨g9, c9, rfl, ho, hg, hb⟩
        refine ⟨_, rfl, ?_⟩
        exact ⟨kpw h0, fun h => by simpa [sput] using (h1 (by simpa [did] using h)).below hb, kpw h2, fun _ => ⟨g9, c9, by simp [sput], ho, Nat.le_trans hT.size hg⟩, kpw h4, fun h => by simpa [sput] using (h5 (by simpa [did] using h)).below hb, fun h => by simpa [sput] using (h6 (by simpa [did] using h)).below hb, fun h => by simpa [sput] using (h7 (by simpa [did] using h)).below hb, fun h => by simpa [sput] using (h8 (by simpa [did] using h)).below hb, fun h => by simpa [sput] using (h9 (by simpa [did] using h)).below hb, fun h => by have := x7 (by simpa [did] using h); simp [hd] at this, fun h => by simpa [sput] using (h11 (by simpa [did] using h)).below hb, by simpa [sput, did] using x0, by simpa [sput, did] using x1, by simpa [sput, did] using x2, by simpa [sput, did] using x3, fun e1 _ => by have hq := (h1 (by simpa [did] using e1)).lb_lt; simp [sput, lb_vec]; omega, by simpa [sput, did] using x5, by simpa [sput, did] using x6, fun _ => by simp [did], by simpa [sput, did] using x8, below_nx hT hb⟩
    · as_aux_lemma =>
        unfold OpSteps
        obtain ⟨p0, p1, p2, p3⟩ := cells4w (Hy4.out.below hT Hy4.out.lt)
        simp [go_sem, evS, f7, p0, p1, p2, p3]
        exact ⟨kpw h0, fun h => by simpa [sput] using h1 (by simpa [did] using h), kpw h2, fun h => by simpa [sput] using h3 (by simpa [did] using h), fun _ => by simp [sput], fun h => by simpa [sput] using h5 (by simpa [did] using h), fun h => by simpa [sput] using h6 (by simpa [did] using h), fun h => by simpa [sput] using h7 (by simpa [did] using h), fun h => by simpa [sput] using h8 (by simpa [did] using h), fun h => by simpa [sput] using h9 (by simpa [did] using h), fun h => by simpa [sput] using h10 (by simpa [did] using h), fun h => by simpa [sput] using h11 (by simpa [did] using h), by simpa [sput, did] using x0, by simpa [sput, did] using x1, by simpa [sput, did] using x2, by simpa [sput, did] using x3, by simpa [sput, did] using x4, by simpa [sput, did] using x5, by simpa [sput, did] using x6, by simpa [sput, did] using x7, by simpa [sput, did] using x8, hT⟩
    · as_aux_lemma =>
        have g4 := h4 (by simp [hdep])
        unfold OpSteps
        simp [go_sem, evS, g4]
        refine (HAly.out W (below_nx HB4.out hT)).mono ?_
        rintro e W' ⟨g9, c9, rfl, ho, hg, hb⟩
        refine ⟨_, rfl, ?_⟩
        exact ⟨kpw h0, fun h => by simpa [sput] using (h1 (by simpa [did] using h)).below hb, kpw h2, fun h => by simpa [sput] using (h3 (by simpa [did] using h)).below hb, kpw h4, fun _ => ⟨g9, c9, by simp [sput], ho, Nat.le_trans hT.size hg⟩, fun h => by simpa [sput] using (h6 (by simpa [did] using h)).below hb, fun h => by simpa [sput] using (h7 (by simpa [did] using h)).below hb, fun h => by simpa [sput] using (h8 (by simpa [did] using h)).below hb, fun h => by simpa [sput] using (h9 (by simpa [did] using h)).below hb, fun h => by simpa [sput] using (h10 (by simpa [did] using h)).below hb, fun h => by have := x8 (by simpa [did] using h); simp [hd] at this, by simpa [sput, did] using x0, by simpa [sput, did] using x1, by simpa [sput, did] using x2, by simpa [sput, did] using x3, by simpa [sput, did] using x4, fun e1 _ => by have hq := (h1 (by simpa [did] using e1)).lb_lt; simp [sput, lb_vec]; omega, by simpa [sput, did] using x6, by simpa [sput, did] using x7, fun _ => by simp [did], below_nx hT hb⟩
    · as_aux_lemma =>
        unfold OpSteps
        simp [go_sem, evS]
        exact ⟨kpw h0, fun h => by simpa [sput] using (h1 (by simpa [did] using h)).below below_one, kpw h2, fun h => by simpa [sput] using (h3 (by simpa [did] using h)).below below_one, kpw h4, fun h => by simpa [sput] using (h5 (by simpa [did] using h)).below below_one, fun _ => ⟨W.heap.size, _, _, _, _, _, by simp [sput], Blk.new W _ _, hT.size⟩, fun h => by simpa [sput] using (h7 (by simpa [did] using h)).below below_one, fun h => by simpa [sput] using (h8 (by simpa [did] using h)).below below_one, fun h => by have := x0 (by simpa [did] using h); simp [hd] at this, fun h => by simpa [sput] using (h10 (by simpa [did] using h)).below below_one, fun h => by simpa [sput] using (h11 (by simpa [did] using h)).below below_one, fun _ => by simp [did], by simpa [sput, did] using x1, by simpa [sput, did] using x2, by simpa [sput, did] using x3, by simpa [sput, did] using x4, by simpa [sput, did] using x5, by simpa [sput, did] using x6, by simpa [sput, did] using x7, by simpa [sput, did] using x8, below_al hT⟩
    · as_aux_lemma =>
        unfold OpSteps
        simp [go_sem, evS]
        exact ⟨kpw h0, fun h => by simpa [sput] using (h1 (by simpa [did] using h)).below below_one, kpw h2, fun h => by simpa [sput] using (h3 (by simpa [did] using h)).below below_one, kpw h4, fun h => by simpa [sput] using (h5 (by simpa [did] using h)).below below_one, fun h => by simpa [sput] using (h6 (by simpa [did] using h)).below below_one, fun _ => ⟨W.heap.size, _, _, _, _, by simp [sput], Blk.new W _ _, hT.size⟩, fun h => by simpa [sput] using (h8 (by simpa [did] using h)).below below_one, fun h => by simpa [sput] using (h9 (by simpa [did] using h)).below below_one, fun h => by have := x1 (by simpa [did] using h); simp [hd] at this, fun h => by simpa [sput] using (h11 (by simpa [did] using h)).below below_one, by simpa [sput, did] using x0, fun _ => by simp [did], by simpa [sput, did] using x2, fun _ e8 => by have hq := (h8 (by simpa [did] using e8)).new_ne; simp [sput]; exact fun e => hq e.symm, by simpa [sput, did] using x4, by simpa [sput, did] using x5, by simpa [sput, did] using x6, by simpa [sput, did] using x7, by simpa [sput, did] using x8, below_al hT⟩
    · as_aux_lemma =>
        unfold OpSteps
        simp [go_sem, evS]
        exact ⟨kpw h0, fun h => by simpa [sput] using (h1 (by simpa [did] using h)).below below_one, kpw h2, fun h => by simpa [sput] using (h3 (by simpa [did] using h)).below below_one, kpw h4, fun h => by simpa [sput] using (h5 (by simpa [did] using h)).below below_one, fun h => by simpa [sput] using (h6 (by simpa [did] using h)).below below_one, fun h => by simpa [sput] using (h7 (by simpa [did] using h)).below below_one, fun _ => ⟨W.heap.size, _, _, _, _, by simp [sput], Blk.new W _ _, hT.size⟩, fun h => by simpa [sput] using (h9 (by simpa [did] using h)).below below_one, fun h => by simpa [sput] using (h10 (by simpa [did] using h)).below below_one, fun h => by have := x2 (by simpa [did] using h); simp [hd] at this, by simpa [sput, did] using x0, by simpa [sput, did] using x1, fun _ => by simp [did], fun e7 _ => by have hq := (h7 (by simpa [did] using e7)).new_ne; simp [sput]; exact hq, by simpa [sput, did] using x4, by simpa [sput, did] using x5, by simpa [sput, did] using x6, by simpa [sput, did] using x7, by simpa [sput, did] using x8, below_al hT⟩
    · as_aux_lemma =>
        have g6 := h6 (by simp [hdep])
        have g1 := h1 (by simp [hdep])
        unfold OpSteps
        obtain ⟨p9, z0, z1, z2, z3, z4, gp, hB9, hlo⟩ := g6
        obtain ⟨g9, c9, gv, gO, gz⟩ := g1
        obtain ⟨fr0, fr1, fr2, fr3, fr4⟩ := frozen5w hB9
        obtain ⟨k0, k1, k2, k3, k4⟩ := cells5 hB9
        have hfar : ∀ k9, k9 ≠ p9 → _ := fun k9 (hk9 : k9 ≠ p9) => heap_sets5 (w := W) hk9 (.slice (some ⟨g9, 0, none⟩) nm c9) (.int .i64 mo) (.int .i64 mr) (.int .i64 mk) (.int .i64 ml)
        simp [go_sem, evS, gp, gv, fr0, fr1, fr2, fr3, fr4, k0, k1, k2, k3, k4]
        exact ⟨kpw h0, fun h => by simpa [sput] using (h1 (by simpa [did] using h)).far hB9 (by decide) hfar, kpw h2, fun h => by simpa [sput] using (h3 (by simpa [did] using h)).far hB9 (by decide) hfar, kpw h4, fun h => by simpa [sput] using (h5 (by simpa [did] using h)).far hB9 (by decide) hfar, fun h => ⟨p9, _, _, _, _, _, by simpa [sput] using gp, Blk.store5 hB9 _ _ _ _ _, hlo⟩, fun h => by simpa [sput] using (h7 (by simpa [did] using h)).far ((h7 (by simpa [did] using h)).ne_ hB9 (by decide)) hfar, fun h => by simpa [sput] using (h8 (by simpa [did] using h)).far ((h8 (by simpa [did] using h)).ne_ hB9 (by decide)) hfar, fun _ => by simp only [sput, gv, lb_mat]; exact ⟨p9, c9, by simpa using gp, Blk.store5 hB9 _ _ _ _ _, own_off gO (own_ne gO hB9 (by decide)) hfar, hlo, gz⟩, fun h => by simpa [sput] using (h10 (by simpa [did] using h)).far hB9 (by decide) ((h7 (x1 (by simpa [did] using h))).ne_ hB9 (by decide)) hfar, fun h => by simpa [sput] using (h11 (by simpa [did] using h)).far hB9 (by decide) ((h8 (x2 (by simpa [did] using h))).ne_ hB9 (by decide)) hfar, fun _ => by simp [did, hdep], by simpa [sput, did] using x1, by simpa [sput, did] using x2, by simpa [sput, did] using x3, by simpa [sput, did] using x4, by simpa [sput, did] using x5, fun _ => by simp [did, hdep], by simpa [sput, did] using x7, by simpa [sput, did] using x8, below_sets5 hT hlo _ _ _ _ _⟩
    · as_aux_lemma =>
        have g7 := h7 (by simp [hdep])
        have g3 := h3 (by simp [hdep])
        unfold OpSteps
        obtain ⟨p9, z0, z1, z2, z3, gp, hB9, hlo⟩ := g7
        obtain ⟨g9, c9, gv, gO, gz⟩ := g3
        have e7 : d 7 = true := by simp [hdep]
        obtain ⟨fr0, fr1, fr2, fr3⟩ := frozen4w hB9
        obtain ⟨k0, k1, k2, k3⟩ := cells4w hB9
        have hfar : ∀ k9, k9 ≠ p9 → _ := fun k9 (hk9 : k9 ≠ p9) => heap_sets4 (w := W) hk9 (.slice (some ⟨g9, 0, none⟩) nx c9) (.int .i64 xo) (.int .i64 xk) (.int .i64 xi)
        simp [go_sem, evS, gp, gv, fr0, fr1, fr2, fr3, k0, k1, k2, k3]
        exact ⟨kpw h0, fun h => by simpa [sput] using (h1 (by simpa [did] using h)).far hB9 (by decide) hfar, kpw h2, fun h => by simpa [sput] using (h3 (by simpa [did] using h)).far hB9 (by decide) hfar, kpw h4, fun h => by simpa [sput] using (h5 (by simpa [did] using h)).far hB9 (by decide) hfar, fun h => by simpa [sput] using (h6 (by simpa [did] using h)).far ((h6 (by simpa [did] using h)).ne_ hB9 (by decide)) hfar, fun h => ⟨p9, _, _, _, _, by simpa [sput] using gp, Blk.store4v hB9 _ _ _ _, hlo⟩, fun h => by simpa [sput] using (h8 (by simpa [did] using h)).far (fun e => x3 e7 (by simpa [did] using h) (gp.trans e.symm)) hfar, fun h => by simpa [sput] using (h9 (by simpa [did] using h)).far hB9 (by decide) ((h6 (x0 (by simpa [did] using h))).ne_ hB9 (by decide)) hfar, fun _ => by simp only [sput, gv, lb_vec]; exact ⟨p9, c9, by simpa using gp, Blk.store4v hB9 _ _ _ _, own_off gO (own_ne gO hB9 (by decide)) hfar, hlo, gz⟩, fun h => by simpa [sput] using (h11 (by simpa [did] using h)).far hB9 (by decide) (fun e => x3 e7 (x2 (by simpa [did] using h)) (gp.trans e.symm)) hfar, by simpa [sput, did] using x0, fun _ => by simp [did, hdep], by simpa [sput, did] using x2, by simpa [sput, did] using x3, by simpa [sput, did] using x4, by simpa [sput, did] using x5, by simpa [sput, did] using x6, fun _ => by simp [did, hdep], by simpa [sput, did] using x8, below_sets4 hT hlo _ _ _ _⟩
    · as_aux_lemma =>
        have g8 := h8 (by simp [hdep])
        have g5 := h5 (by simp [hdep])
        unfold OpSteps
        obtain ⟨p9, z0, z1, z2, z3, gp, hB9, hlo⟩ := g8
        obtain ⟨g9, c9, gv, gO, gz⟩ := g5
        have e7 : d 8 = true := by simp [hdep]
        obtain ⟨fr0, fr1, fr2, fr3⟩ := frozen4w hB9
        obtain ⟨k0, k1, k2, k3⟩ := cells4w hB9
        have hfar : ∀ k9, k9 ≠ p9 → _ := fun k9 (hk9 : k9 ≠ p9) => heap_sets4 (w := W) hk9 (.slice (some ⟨g9, 0, none⟩) ny c9) (.int .i64 yo) (.int .i64 yk) (.int .i64 yi)
        simp [go_sem, evS, gp, gv, fr0, fr1, fr2, fr3, k0, k1, k2, k3]
        exact ⟨kpw h0, fun h => by simpa [sput] using (h1 (by simpa [did] using h)).far hB9 (by decide) hfar, kpw h2, fun h => by simpa [sput] using (h3 (by simpa [did] using h)).far hB9 (by decide) hfar, kpw h4, fun h => by simpa [sput] using (h5 (by simpa [did] using h)).far hB9 (by decide) hfar, fun h => by simpa [sput] using (h6 (by simpa [did] using h)).far ((h6 (by simpa [did] using h)).ne_ hB9 (by decide)) hfar, fun h => by simpa [sput] using (h7 (by simpa [did] using h)).far (fun e => x3 (by simpa [did] using h) e7 (e.trans gp.symm)) hfar, fun h => ⟨p9, _, _, _, _, by simpa [sput] using gp, Blk.store4v hB9 _ _ _ _, hlo⟩, fun h => by simpa [sput] using (h9 (by simpa [did] using h)).far hB9 (by decide) ((h6 (x0 (by simpa [did] using h))).ne_ hB9 (by decide)) hfar, fun h => by simpa [sput] using (h10 (by simpa [did] using h)).far hB9 (by decide) (fun e => x3 (x1 (by simpa [did] using h)) e7 (e.trans gp.symm)) hfar, fun _ => by simp only [sput, gv, lb_vec]; exact ⟨p9, c9, by simpa using gp, Blk.store4v hB9 _ _ _ _, own_off gO (own_ne gO hB9 (by decide)) hfar, hlo, gz⟩, by simpa [sput, did] using x0, by simpa [sput, did] using x1, fun _ => by simp [did, hdep], by simpa [sput, did] using x3, by simpa [sput, did] using x4, by simpa [sput, did] using x5, by simpa [sput, did] using x6, by simpa [sput, did] using x7, fun _ => by simp [did, hdep], below_sets4 hT hlo _ _ _ _⟩
  intro d s W hJ hd
  obtain ⟨h0, h1, h2, h3, h4, h5, h6, h7, h8, h9, h10, h11, x0, x1, x2, x3, x4, x5, x6, x7, x8, hT⟩ := hJ
  have hd1 := hd 1 (by decide)
  have hgx := x4 hd1 (hd 3 (by decide))
  have hgy := x5 hd1 (hd 5 (by decide))
  have h9' := h9 (hd 9 (by decide))
  have h10' := h10 (hd 10 (by decide))
  have h11' := h11 (hd 11 (by decide))
  have hpq0 := x3 (hd 7 (by decide)) (hd 8 (by decide))
  clear h0 h1 h2 h3 h4 h5 h6 h7 h8 h9 h10 h11 x0 x1 x2 x3 x4 x5 x6 x7 x8 hd hd1
  generalize lb (s 59) = gn at *
  generalize lb (s 61) = gp at *
  generalize lb (s 63) = gq at *
  obtain ⟨pn, cn, hs11, hBn, hOn, hnl, hgl⟩ := h9'
  obtain ⟨pp, cp9, hs12, hBp, hOp, hpl, hgl2⟩ := h10'
  obtain ⟨pq, cq9, hs13, hBq, hOq, hql, hgl3⟩ := h11'
  have hpq : pp ≠ pq := fun e => hpq0 (by rw [hs12, hs13, e])
  have hnp : pn ≠ pp := blk_ne hBn hBp (by decide)
  have hnq : pn ≠ pq := blk_ne hBn hBq (by decide)
  have hb : Below w4.heap.size w4 W := hT
  clear hpq0 hT
  simp [setAll, hs11, hs12, hs13]
  clear hs11 hs12 hs13
  generalize s 58 = s58
  generalize s 59 = s59
  generalize s 60 = s60
  generalize s 61 = s61
  generalize s 62 = s62
  generalize s 63 = s63
  have hy5 : w.heap.size + 1 + 1 < w4.heap.size := Hm4.out.lt
  have HNe := Lib.hid (show gn ≠ gp ∧ gn ≠ gq ∧ pp ≠ pq ∧ pn ≠ pp ∧ pn ≠ pq ∧ w.heap.size + 1 + 1 < pn ∧ w.heap.size + 1 + 1 < pp ∧ w.heap.size + 1 + 1 < pq ∧ w.heap.size + 1 + 1 < gn from by refine ⟨hgx, hgy, hpq, hnp, hnq, by omega, by omega, by omega, by omega⟩)
  clear hy5 hpq hnp hnq hgx hgy hnl hgl hpl hgl2 hql hgl3
  generalize hW6 : W = w6 at *
  clear hW6
  have Hx5 := Lib.hid (Hx4.out.nxt hb)
  have Hy5 := Lib.hid (Hy4.out.nxt hb)
  have Hm5 := Lib.hid (Hm4.out.nxt hb)
  have HB5 := Lib.hid (below_nx HB4.out hb)
  clear hb
  clear x0 x1 x2 x3 y0 y1 y2 y3 m0 m1 m2 m3 m4
  obtain ⟨x0, x1, x2, x3⟩ := cells4w Hx5.out
  obtain ⟨y0, y1, y2, y3⟩ := cells4w Hy5.out
  obtain ⟨m0, m1, m2, m3, m4⟩ := cells5 Hm5.out
  clear Hx4 Hy4 Hm4 HB4
  have Hn5 := Lib.hid hBn
  have Hp5 := Lib.hid hBp
  have Hq5 := Lib.hid hBq
  have Hu5 := Lib.hid hOn
  have Hv5 := Lib.hid hOp
  have Ht5 := Lib.hid hOq
  clear hBn hBp hBq hOn hOp hOq
  clear x0 x1 x2 x3 y0 y1 y2 y3 m0 m1 m2 m3 m4
  clear HAp HAlx HAly HGr HLx HLy
  obtain ⟨x0, x1, x2, x3⟩ := cells4w Hx5.out
  obtain ⟨y0, y1, y2, y3⟩ := cells4w Hy5.out
  obtain ⟨m0, m1, m2, m3, m4⟩ := cells5 Hm5.out
  obtain ⟨n0, n1, n2, n3, n4⟩ := cells5 Hn5.out
  obtain ⟨p0, p1, p2, p3⟩ := cells4w Hp5.out
  obtain ⟨q0, q1, q2, q3⟩ := cells4w Hq5.out
  go_wp2_with fail
  refine (HPr.out _ gn cn gp cp9 gq cq9).mono ?_
  rintro e w8 ⟨rfl, hb⟩
  have Hx6 := Lib.hid (Hx5.out.nxt hb)
  have Hy6 := Lib.hid (Hy5.out.nxt hb)
  have Hm6 := Lib.hid (Hm5.out.nxt hb)
  have Hn6 := Lib.hid (Hn5.out.nxt hb)
  have Hp6 := Lib.hid (Hp5.out.nxt hb)
  have Hq6 := Lib.hid (Hq5.out.nxt hb)
  have Hu6 := Lib.hid (Hu5.out.nxt hb)
  have Hv6 := Lib.hid (Hv5.out.nxt hb)
  have Ht6 := Lib.hid (Ht5.out.nxt hb)
  have HB6 := Lib.hid (below_nx HB5.out hb)
  clear hb
  clear x0 x1 x2 x3 y0 y1 y2 y3 m0 m1 m2 m3 m4 n0 n1 n2 n3 n4 p0 p1 p2 p3 q0 q1 q2 q3
  obtain ⟨x0, x1, x2, x3⟩ := cells4w Hx6.out
  obtain ⟨y0, y1, y2, y3⟩ := cells4w Hy6.out
  obtain ⟨m0, m1, m2, m3, m4⟩ := cells5 Hm6.out
  obtain ⟨n0, n1, n2, n3, n4⟩ := cells5 Hn6.out
  obtain ⟨p0, p1, p2, p3⟩ := cells4w Hp6.out
  obtain ⟨q0, q1, q2, q3⟩ := cells4w Hq6.out
  clear Hx5 Hy5 Hm5 Hn5 Hp5 Hq5 Hu5 Hv5 Ht5 HB5
  cases b1
  · clear h
    go_wp2_with fail
    refine (HRx.out _).mono ?_
    rintro e we0 ⟨rfl, hb⟩
    have Hx7 := Lib.hid (Hx6.out.nxt hb)
    have Hy7 := Lib.hid (Hy6.out.nxt hb)
    have Hm7 := Lib.hid (Hm6.out.nxt hb)
    have Hn7 := Lib.hid (Hn6.out.nxt hb)
    have Hp7 := Lib.hid (Hp6.out.nxt hb)
    have Hq7 := Lib.hid (Hq6.out.nxt hb)
    have Hu7 := Lib.hid (Hu6.out.nxt hb)
    have Hv7 := Lib.hid (Hv6.out.nxt hb)
    have Ht7 := Lib.hid (Ht6.out.nxt hb)
    have HB7 := Lib.hid (below_nx HB6.out hb)
    clear hb
    clear x0 x1 x2 x3 y0 y1 y2 y3 m0 m1 m2 m3 m4 n0 n1 n2 n3 n4 p0 p1 p2 p3 q0 q1 q2 q3
    obtain ⟨x0, x1, x2, x3⟩ := cells4w Hx7.out
    obtain ⟨y0, y1, y2, y3⟩ := cells4w Hy7.out
    obtain ⟨m0, m1, m2, m3, m4⟩ := cells5 Hm7.out
    obtain ⟨n0, n1, n2, n3, n4⟩ := cells5 Hn7.out
    obtain ⟨p0, p1, p2, p3⟩ := cells4w Hp7.out
    obtain ⟨q0, q1, q2, q3⟩ := cells4w Hq7.out
    clear Hx6 Hy6 Hm6 Hn6 Hp6 Hq6 Hu6 Hv6 Ht6 HB6
    go_wp2_with fail
    refine (HAllm.out _ _ _ _ _ Hu7.out.row (HAm.out.below HB7.out)).mono ?_
    rintro e wa0 ⟨rfl, hb⟩
    have Hx8 := Lib.hid (Hx7.out.nxt hb)
    have Hy8 := Lib.hid (Hy7.out.nxt hb)
    have Hm8 := Lib.hid (Hm7.out.nxt hb)
    have Hn8 := Lib.hid (Hn7.out.nxt hb)
    have Hp8 := Lib.hid (Hp7.out.nxt hb)
    have Hq8 := Lib.hid (Hq7.out.nxt hb)
    have Hu8 := Lib.hid (Hu7.out.nxt hb)
    have Hv8 := Lib.hid (Hv7.out.nxt hb)
    have Ht8 := Lib.hid (Ht7.out.nxt hb)
    have HB8 := Lib.hid (below_nx HB7.out hb)
    clear hb
    clear x0 x1 x2 x3 y0 y1 y2 y3 m0 m1 m2 m3 m4 n0 n1 n2 n3 n4 p0 p1 p2 p3 q0 q1 q2 q3
    obtain ⟨x0, x1, x2, x3⟩ := cells4w Hx8.out
    obtain ⟨y0, y1, y2, y3⟩ := cells4w Hy8.out
    obtain ⟨m0, m1, m2, m3, m4⟩ := cells5 Hm8.out
    obtain ⟨n0, n1, n2, n3, n4⟩ := cells5 Hn8.out
    obtain ⟨p0, p1, p2, p3⟩ := cells4w Hp8.out
    obtain ⟨q0, q1, q2, q3⟩ := cells4w Hq8.out
    clear Hx7 Hy7 Hm7 Hn7 Hp7 Hq7 Hu7 Hv7 Ht7 HB7
    go_wp2_with fail
    refine (HAllx.out _ _ _ _ _ Hv8.out.row (HAx.out.below HB8.out)).mono ?_
    rintro e wb0 ⟨rfl, hb⟩
    have Hx9 := Lib.hid (Hx8.out.nxt hb)
    have Hy9 := Lib.hid (Hy8.out.nxt hb)
    have Hm9 := Lib.hid (Hm8.out.nxt hb)
    have Hn9 := Lib.hid (Hn8.out.nxt hb)
    have Hp9 := Lib.hid (Hp8.out.nxt hb)
    have Hq9 := Lib.hid (Hq8.out.nxt hb)
    have Hu9 := Lib.hid (Hu8.out.nxt hb)
    have Hv9 := Lib.hid (Hv8.out.nxt hb)
    have Ht9 := Lib.hid (Ht8.out.nxt hb)
    have HB9 := Lib.hid (below_nx HB8.out hb)
    clear hb
    clear x0 x1 x2 x3 y0 y1 y2 y3 m0 m1 m2 m3 m4 n0 n1 n2 n3 n4 p0 p1 p2 p3 q0 q1 q2 q3
    obtain ⟨x0, x1, x2, x3⟩ := cells4w Hx9.out
    obtain ⟨y0, y1, y2, y3⟩ := cells4w Hy9.out
    obtain ⟨m0, m1, m2, m3, m4⟩ := cells5 Hm9.out
    obtain ⟨n0, n1, n2, n3, n4⟩ := cells5 Hn9.out
    obtain ⟨p0, p1, p2, p3⟩ := cells4w Hp9.out
    obtain ⟨q0, q1, q2, q3⟩ := cells4w Hq9.out
    clear Hx8 Hy8 Hm8 Hn8 Hp8 Hq8 Hu8 Hv8 Ht8 HB8
    go_wp2_with fail
    refine (HAlly.out _ _ _ _ _ Ht9.out.row (HAy.out.below HB9.out)).mono ?_
    rintro e wc0 ⟨rfl, hb⟩
    have Hx10 := Lib.hid (Hx9.out.nxt hb)
    have Hy10 := Lib.hid (Hy9.out.nxt hb)
    have Hm10 := Lib.hid (Hm9.out.nxt hb)
    have Hn10 := Lib.hid (Hn9.out.nxt hb)
    have Hp10 := Lib.hid (Hp9.out.nxt hb)
    have Hq10 := Lib.hid (Hq9.out.nxt hb)
    have Hu10 := Lib.hid (Hu9.out.nxt hb)
    have Hv10 := Lib.hid (Hv9.out.nxt hb)
    have Ht10 := Lib.hid (Ht9.out.nxt hb)
    have HB10 := Lib.hid (below_nx HB9.out hb)
    clear hb
    clear x0 x1 x2 x3 y0 y1 y2 y3 m0 m1 m2 m3 m4 n0 n1 n2 n3 n4 p0 p1 p2 p3 q0 q1 q2 q3
    obtain ⟨x0, x1, x2, x3⟩ := cells4w Hx10.out
    obtain ⟨y0, y1, y2, y3⟩ := cells4w Hy10.out
    obtain ⟨m0, m1, m2, m3, m4⟩ := cells5 Hm10.out
    obtain ⟨n0, n1, n2, n3, n4⟩ := cells5 Hn10.out
    obtain ⟨p0, p1, p2, p3⟩ := cells4w Hp10.out
    obtain ⟨q0, q1, q2, q3⟩ := cells4w Hq10.out
    clear Hx9 Hy9 Hm9 Hn9 Hp9 Hq9 Hu9 Hv9 Ht9 HB9
    go_wp2_with fail
    refine (awake8_any _).mono ?_
    rintro e wd0 ⟨rfl, hb⟩
    have Hx11 := Lib.hid (Hx10.out.nxt hb)
    have Hy11 := Lib.hid (Hy10.out.nxt hb)
    have Hm11 := Lib.hid (Hm10.out.nxt hb)
    have Hn11 := Lib.hid (Hn10.out.nxt hb)
    have Hp11 := Lib.hid (Hp10.out.nxt hb)
    have Hq11 := Lib.hid (Hq10.out.nxt hb)
    have Hu11 := Lib.hid (Hu10.out.nxt hb)
    have Hv11 := Lib.hid (Hv10.out.nxt hb)
    have Ht11 := Lib.hid (Ht10.out.nxt hb)
    have HB11 := Lib.hid (below_nx HB10.out hb)
    clear hb
    clear x0 x1 x2 x3 y0 y1 y2 y3 m0 m1 m2 m3 m4 n0 n1 n2 n3 n4 p0 p1 p2 p3 q0 q1 q2 q3
    obtain ⟨x0, x1, x2, x3⟩ := cells4w Hx11.out
    obtain ⟨y0, y1, y2, y3⟩ := cells4w Hy11.out
    obtain ⟨m0, m1, m2, m3, m4⟩ := cells5 Hm11.out
    obtain ⟨n0, n1, n2, n3, n4⟩ := cells5 Hn11.out
    obtain ⟨p0, p1, p2, p3⟩ := cells4w Hp11.out
    obtain ⟨q0, q1, q2, q3⟩ := cells4w Hq11.out
    clear Hx10 Hy10 Hm10 Hn10 Hp10 Hq10 Hu10 Hv10 Ht10 HB10
    go_wp2_with fail
    go_ret
    exact ⟨rfl, HB11.out⟩
  · cases b2
    · clear h
      go_wp2_with fail
      refine (HRx.out _).mono ?_
      rintro e we0 ⟨rfl, hb⟩
      have Hx7 := Lib.hid (Hx6.out.nxt hb)
      have Hy7 := Lib.hid (Hy6.out.nxt hb)
      have Hm7 := Lib.hid (Hm6.out.nxt hb)
      have Hn7 := Lib.hid (Hn6.out.nxt hb)
      have Hp7 := Lib.hid (Hp6.out.nxt hb)
      have Hq7 := Lib.hid (Hq6.out.nxt hb)
      have Hu7 := Lib.hid (Hu6.out.nxt hb)
      have Hv7 := Lib.hid (Hv6.out.nxt hb)
      have Ht7 := Lib.hid (Ht6.out.nxt hb)
      have HB7 := Lib.hid (below_nx HB6.out hb)
      clear hb
      clear x0 x1 x2 x3 y0 y1 y2 y3 m0 m1 m2 m3 m4 n0 n1 n2 n3 n4 p0 p1 p2 p3 q0 q1 q2 q3
      obtain ⟨x0, x1, x2, x3⟩ := cells4w Hx7.out
      obtain ⟨y0, y1, y2, y3⟩ := cells4w Hy7.out
      obtain ⟨m0, m1, m2, m3, m4⟩ := cells5 Hm7.out
      obtain ⟨n0, n1, n2, n3, n4⟩ := cells5 Hn7.out
      obtain ⟨p0, p1, p2, p3⟩ := cells4w Hp7.out
      obtain ⟨q0, q1, q2, q3⟩ := cells4w Hq7.out
      clear Hx6 Hy6 Hm6 Hn6 Hp6 Hq6 Hu6 Hv6 Ht6 HB6
      go_wp2_with fail
      refine (HRy.out _).mono ?_
      rintro e we1 ⟨rfl, hb⟩
      have Hx8 := Lib.hid (Hx7.out.nxt hb)
      have Hy8 := Lib.hid (Hy7.out.nxt hb)
      have Hm8 := Lib.hid (Hm7.out.nxt hb)
      have Hn8 := Lib.hid (Hn7.out.nxt hb)
      have Hp8 := Lib.hid (Hp7.out.nxt hb)
      have Hq8 := Lib.hid (Hq7.out.nxt hb)
      have Hu8 := Lib.hid (Hu7.out.nxt hb)
      have Hv8 := Lib.hid (Hv7.out.nxt hb)
      have Ht8 := Lib.hid (Ht7.out.nxt hb)
      have HB8 := Lib.hid (below_nx HB7.out hb)
      clear hb
      clear x0 x1 x2 x3 y0 y1 y2 y3 m0 m1 m2 m3 m4 n0 n1 n2 n3 n4 p0 p1 p2 p3 q0 q1 q2 q3
      obtain ⟨x0, x1, x2, x3⟩ := cells4w Hx8.out
      obtain ⟨y0, y1, y2, y3⟩ := cells4w Hy8.out
      obtain ⟨m0, m1, m2, m3, m4⟩ := cells5 Hm8.out
      obtain ⟨n0, n1, n2, n3, n4⟩ := cells5 Hn8.out
      obtain ⟨p0, p1, p2, p3⟩ := cells4w Hp8.out
      obtain ⟨q0, q1, q2, q3⟩ := cells4w Hq8.out
      clear Hx7 Hy7 Hm7 Hn7 Hp7 Hq7 Hu7 Hv7 Ht7 HB7
      go_wp2_with fail
      refine (HAllm.out _ _ _ _ _ Hu8.out.row (HAm.out.below HB8.out)).mono ?_
      rintro e wa0 ⟨rfl, hb⟩
      have Hx9 := Lib.hid (Hx8.out.nxt hb)
      have Hy9 := Lib.hid (Hy8.out.nxt hb)
      have Hm9 := Lib.hid (Hm8.out.nxt hb)
      have Hn9 := Lib.hid (Hn8.out.nxt hb)
      have Hp9 := Lib.hid (Hp8.out.nxt hb)
      have Hq9 := Lib.hid (Hq8.out.nxt hb)
      have Hu9 := Lib.hid (Hu8.out.nxt hb)
      have Hv9 := Lib.hid (Hv8.out.nxt hb)
      have Ht9 := Lib.hid (Ht8.out.nxt hb)
      have HB9 := Lib.hid (below_nx HB8.out hb)
      clear hb
      clear x0 x1 x2 x3 y0 y1 y2 y3 m0 m1 m2 m3 m4 n0 n1 n2 n3 n4 p0 p1 p2 p3 q0 q1 q2 q3
      obtain ⟨x0, x1, x2, x3⟩ := cells4w Hx9.out
      obtain ⟨y0, y1, y2, y3⟩ := cells4w Hy9.out
      obtain ⟨m0, m1, m2, m3, m4⟩ := cells5 Hm9.out
      obtain ⟨n0, n1, n2, n3, n4⟩ := cells5 Hn9.out
      obtain ⟨p0, p1, p2, p3⟩ := cells4w Hp9.out
      obtain ⟨q0, q1, q2, q3⟩ := cells4w Hq9.out
      clear Hx8 Hy8 Hm8 Hn8 Hp8 Hq8 Hu8 Hv8 Ht8 HB8
      go_wp2_with fail
      refine (HAllx.out _ _ _ _ _ Hv9.out.row (HAx.out.below HB9.out)).mono ?_
      rintro e wb0 ⟨rfl, hb⟩
      have Hx10 := Lib.hid (Hx9.out.nxt hb)
      have Hy10 := Lib.hid (Hy9.out.nxt hb)
      have Hm10 := Lib.hid (Hm9.out.nxt hb)
      have Hn10 := Lib.hid (Hn9.out.nxt hb)
      have Hp10 := Lib.hid (Hp9.out.nxt hb)
      have Hq10 := Lib.hid (Hq9.out.nxt hb)
      have Hu10 := Lib.hid (Hu9.out.nxt hb)
      have Hv10 := Lib.hid (Hv9.out.nxt hb)
      have Ht10 := Lib.hid (Ht9.out.nxt hb)
      have HB10 := Lib.hid (below_nx HB9.out hb)
      clear hb
      clear x0 x1 x2 x3 y0 y1 y2 y3 m0 m1 m2 m3 m4 n0 n1 n2 n3 n4 p0 p1 p2 p3 q0 q1 q2 q3
      obtain ⟨x0, x1, x2, x3⟩ := cells4w Hx10.out
      obtain ⟨y0, y1, y2, y3⟩ := cells4w Hy10.out
      obtain ⟨m0, m1, m2, m3, m4⟩ := cells5 Hm10.out
      obtain ⟨n0, n1, n2, n3, n4⟩ := cells5 Hn10.out
      obtain ⟨p0, p1, p2, p3⟩ := cells4w Hp10.out
      obtain ⟨q0, q1, q2, q3⟩ := cells4w Hq10.out
      clear Hx9 Hy9 Hm9 Hn9 Hp9 Hq9 Hu9 Hv9 Ht9 HB9
      go_wp2_with fail
      refine (HAlly.out _ _ _ _ _ Ht10.out.row (HAy.out.below HB10.out)).mono ?_
      rintro e wc0 ⟨rfl, hb⟩
      have Hx11 := Lib.hid (Hx10.out.nxt hb)
      have Hy11 := Lib.hid (Hy10.out.nxt hb)
      have Hm11 := Lib.hid (Hm10.out.nxt hb)
      have Hn11 := Lib.hid (Hn10.out.nxt hb)
      have Hp11 := Lib.hid (Hp10.out.nxt hb)
      have Hq11 := Lib.hid (Hq10.out.nxt hb)
      have Hu11 := Lib.hid (Hu10.out.nxt hb)
      have Hv11 := Lib.hid (Hv10.out.nxt hb)
      have Ht11 := Lib.hid (Ht10.out.nxt hb)
      have HB11 := Lib.hid (below_nx HB10.out hb)
      clear hb
      clear x0 x1 x2 x3 y0 y1 y2 y3 m0 m1 m2 m3 m4 n0 n1 n2 n3 n4 p0 p1 p2 p3 q0 q1 q2 q3
      obtain ⟨x0, x1, x2, x3⟩ := cells4w Hx11.out
      obtain ⟨y0, y1, y2, y3⟩ := cells4w Hy11.out
      obtain ⟨m0, m1, m2, m3, m4⟩ := cells5 Hm11.out
      obtain ⟨n0, n1, n2, n3, n4⟩ := cells5 Hn11.out
      obtain ⟨p0, p1, p2, p3⟩ := cells4w Hp11.out
      obtain ⟨q0, q1, q2, q3⟩ := cells4w Hq11.out
      clear Hx10 Hy10 Hm10 Hn10 Hp10 Hq10 Hu10 Hv10 Ht10 HB10
      go_wp2_with fail
      refine (awake8_any _).mono ?_
      rintro e wd0 ⟨rfl, hb⟩
      have Hx12 := Lib.hid (Hx11.out.nxt hb)
      have Hy12 := Lib.hid (Hy11.out.nxt hb)
      have Hm12 := Lib.hid (Hm11.out.nxt hb)
      have Hn12 := Lib.hid (Hn11.out.nxt hb)
      have Hp12 := Lib.hid (Hp11.out.nxt hb)
      have Hq12 := Lib.hid (Hq11.out.nxt hb)
      have Hu12 := Lib.hid (Hu11.out.nxt hb)
      have Hv12 := Lib.hid (Hv11.out.nxt hb)
      have Ht12 := Lib.hid (Ht11.out.nxt hb)
      have HB12 := Lib.hid (below_nx HB11.out hb)
      clear hb
      clear x0 x1 x2 x3 y0 y1 y2 y3 m0 m1 m2 m3 m4 n0 n1 n2 n3 n4 p0 p1 p2 p3 q0 q1 q2 q3
      obtain ⟨x0, x1, x2, x3⟩ := cells4w Hx12.out
      obtain ⟨y0, y1, y2, y3⟩ := cells4w Hy12.out
      obtain ⟨m0, m1, m2, m3, m4⟩ := cells5 Hm12.out
      obtain ⟨n0, n1, n2, n3, n4⟩ := cells5 Hn12.out
      obtain ⟨p0, p1, p2, p3⟩ := cells4w Hp12.out
      obtain ⟨q0, q1, q2, q3⟩ := cells4w Hq12.out
      clear Hx11 Hy11 Hm11 Hn11 Hp11 Hq11 Hu11 Hv11 Ht11 HB11
      go_wp2_with fail
      go_ret
      exact ⟨rfl, HB12.out⟩
    · have hb3 : b3 = false := by simpa using h
      subst hb3
      clear h
      go_wp2_with fail
      refine (HRx.out _).mono ?_
      rintro e we0 ⟨rfl, hb⟩
      have Hx7 := Lib.hid (Hx6.out.nxt hb)
      have Hy7 := Lib.hid (Hy6.out.nxt hb)
      have Hm7 := Lib.hid (Hm6.out.nxt hb)
      have Hn7 := Lib.hid (Hn6.out.nxt hb)
      have Hp7 := Lib.hid (Hp6.out.nxt hb)
      have Hq7 := Lib.hid (Hq6.out.nxt hb)
      have Hu7 := Lib.hid (Hu6.out.nxt hb)
      have Hv7 := Lib.hid (Hv6.out.nxt hb)
      have Ht7 := Lib.hid (Ht6.out.nxt hb)
      have HB7 := Lib.hid (below_nx HB6.out hb)
      clear hb
      clear x0 x1 x2 x3 y0 y1 y2 y3 m0 m1 m2 m3 m4 n0 n1 n2 n3 n4 p0 p1 p2 p3 q0 q1 q2 q3
      obtain ⟨x0, x1, x2, x3⟩ := cells4w Hx7.out
      obtain ⟨y0, y1, y2, y3⟩ := cells4w Hy7.out
      obtain ⟨m0, m1, m2, m3, m4⟩ := cells5 Hm7.out
      obtain ⟨n0, n1, n2, n3, n4⟩ := cells5 Hn7.out
      obtain ⟨p0, p1, p2, p3⟩ := cells4w Hp7.out
      obtain ⟨q0, q1, q2, q3⟩ := cells4w Hq7.out
      clear Hx6 Hy6 Hm6 Hn6 Hp6 Hq6 Hu6 Hv6 Ht6 HB6
      go_wp2_with fail
      refine (HRy.out _).mono ?_
      rintro e we1 ⟨rfl, hb⟩
      have Hx8 := Lib.hid (Hx7.out.nxt hb)
      have Hy8 := Lib.hid (Hy7.out.nxt hb)
      have Hm8 := Lib.hid (Hm7.out.nxt hb)
      have Hn8 := Lib.hid (Hn7.out.nxt hb)
      have Hp8 := Lib.hid (Hp7.out.nxt hb)
      have Hq8 := Lib.hid (Hq7.out.nxt hb)
      have Hu8 := Lib.hid (Hu7.out.nxt hb)
      have Hv8 := Lib.hid (Hv7.out.nxt hb)
      have Ht8 := Lib.hid (Ht7.out.nxt hb)
      have HB8 := Lib.hid (below_nx HB7.out hb)
      clear hb
      clear x0 x1 x2 x3 y0 y1 y2 y3 m0 m1 m2 m3 m4 n0 n1 n2 n3 n4 p0 p1 p2 p3 q0 q1 q2 q3
      obtain ⟨x0, x1, x2, x3⟩ := cells4w Hx8.out
      obtain ⟨y0, y1, y2, y3⟩ := cells4w Hy8.out
      obtain ⟨m0, m1, m2, m3, m4⟩ := cells5 Hm8.out
      obtain ⟨n0, n1, n2, n3, n4⟩ := cells5 Hn8.out
      obtain ⟨p0, p1, p2, p3⟩ := cells4w Hp8.out
      obtain ⟨q0, q1, q2, q3⟩ := cells4w Hq8.out
      clear Hx7 Hy7 Hm7 Hn7 Hp7 Hq7 Hu7 Hv7 Ht7 HB7
      go_wp2_with fail
      refine (HGm.out _).mono ?_
      rintro e we2 ⟨rfl, hb⟩
      have Hx9 := Lib.hid (Hx8.out.nxt hb)
      have Hy9 := Lib.hid (Hy8.out.nxt hb)
      have Hm9 := Lib.hid (Hm8.out.nxt hb)
      have Hn9 := Lib.hid (Hn8.out.nxt hb)
      have Hp9 := Lib.hid (Hp8.out.nxt hb)
      have Hq9 := Lib.hid (Hq8.out.nxt hb)
      have Hu9 := Lib.hid (Hu8.out.nxt hb)
      have Hv9 := Lib.hid (Hv8.out.nxt hb)
      have Ht9 := Lib.hid (Ht8.out.nxt hb)
      have HB9 := Lib.hid (below_nx HB8.out hb)
      clear hb
      clear x0 x1 x2 x3 y0 y1 y2 y3 m0 m1 m2 m3 m4 n0 n1 n2 n3 n4 p0 p1 p2 p3 q0 q1 q2 q3
      obtain ⟨x0, x1, x2, x3⟩ := cells4w Hx9.out
      obtain ⟨y0, y1, y2, y3⟩ := cells4w Hy9.out
      obtain ⟨m0, m1, m2, m3, m4⟩ := cells5 Hm9.out
      obtain ⟨n0, n1, n2, n3, n4⟩ := cells5 Hn9.out
      obtain ⟨p0, p1, p2, p3⟩ := cells4w Hp9.out
      obtain ⟨q0, q1, q2, q3⟩ := cells4w Hq9.out
      clear Hx8 Hy8 Hm8 Hn8 Hp8 Hq8 Hu8 Hv8 Ht8 HB8
      go_wp2_with fail
      refine (HAllm.out _ _ _ _ _ Hu9.out.row (HAm.out.below HB9.out)).mono ?_
      rintro e wa0 ⟨rfl, hb⟩
      have Hx10 := Lib.hid (Hx9.out.nxt hb)
      have Hy10 := Lib.hid (Hy9.out.nxt hb)
      have Hm10 := Lib.hid (Hm9.out.nxt hb)
      have Hn10 := Lib.hid (Hn9.out.nxt hb)
      have Hp10 := Lib.hid (Hp9.out.nxt hb)
      have Hq10 := Lib.hid (Hq9.out.nxt hb)
      have Hu10 := Lib.hid (Hu9.out.nxt hb)
      have Hv10 := Lib.hid (Hv9.out.nxt hb)
      have Ht10 := Lib.hid (Ht9.out.nxt hb)
      have HB10 := Lib.hid (below_nx HB9.out hb)
      clear hb
      clear x0 x1 x2 x3 y0 y1 y2 y3 m0 m1 m2 m3 m4 n0 n1 n2 n3 n4 p0 p1 p2 p3 q0 q1 q2 q3
      obtain ⟨x0, x1, x2, x3⟩ := cells4w Hx10.out
      obtain ⟨y0, y1, y2, y3⟩ := cells4w Hy10.out
      obtain ⟨m0, m1, m2, m3, m4⟩ := cells5 Hm10.out
      obtain ⟨n0, n1, n2, n3, n4⟩ := cells5 Hn10.out
      obtain ⟨p0, p1, p2, p3⟩ := cells4w Hp10.out
      obtain ⟨q0, q1, q2, q3⟩ := cells4w Hq10.out
      clear Hx9 Hy9 Hm9 Hn9 Hp9 Hq9 Hu9 Hv9 Ht9 HB9
      go_wp2_with fail
      refine (HAllx.out _ _ _ _ _ Hv10.out.row (HAx.out.below HB10.out)).mono ?_
      rintro e wb0 ⟨rfl, hb⟩
      have Hx11 := Lib.hid (Hx10.out.nxt hb)
      have Hy11 := Lib.hid (Hy10.out.nxt hb)
      have Hm11 := Lib.hid (Hm10.out.nxt hb)
      have Hn11 := Lib.hid (Hn10.out.nxt hb)
      have Hp11 := Lib.hid (Hp10.out.nxt hb)
      have Hq11 := Lib.hid (Hq10.out.nxt hb)
      have Hu11 := Lib.hid (Hu10.out.nxt hb)
      have Hv11 := Lib.hid (Hv10.out.nxt hb)
      have Ht11 := Lib.hid (Ht10.out.nxt hb)
      have HB11 := Lib.hid (below_nx HB10.out hb)
      clear hb
      clear x0 x1 x2 x3 y0 y1 y2 y3 m0 m1 m2 m3 m4 n0 n1 n2 n3 n4 p0 p1 p2 p3 q0 q1 q2 q3
      obtain ⟨x0, x1, x2, x3⟩ := cells4w Hx11.out
      obtain ⟨y0, y1, y2, y3⟩ := cells4w Hy11.out
      obtain ⟨m0, m1, m2, m3, m4⟩ := cells5 Hm11.out
      obtain ⟨n0, n1, n2, n3, n4⟩ := cells5 Hn11.out
      obtain ⟨p0, p1, p2, p3⟩ := cells4w Hp11.out
      obtain ⟨q0, q1, q2, q3⟩ := cells4w Hq11.out
      clear Hx10 Hy10 Hm10 Hn10 Hp10 Hq10 Hu10 Hv10 Ht10 HB10
      go_wp2_with fail
      refine (HAlly.out _ _ _ _ _ Ht11.out.row (HAy.out.below HB11.out)).mono ?_
      rintro e wc0 ⟨rfl, hb⟩
      have Hx12 := Lib.hid (Hx11.out.nxt hb)
      have Hy12 := Lib.hid (Hy11.out.nxt hb)
      have Hm12 := Lib.hid (Hm11.out.nxt hb)
      have Hn12 := Lib.hid (Hn11.out.nxt hb)
      have Hp12 := Lib.hid (Hp11.out.nxt hb)
      have Hq12 := Lib.hid (Hq11.out.nxt hb)
      have Hu12 := Lib.hid (Hu11.out.nxt hb)
      have Hv12 := Lib.hid (Hv11.out.nxt hb)
      have Ht12 := Lib.hid (Ht11.out.nxt hb)
      have HB12 := Lib.hid (below_nx HB11.out hb)
      clear hb
      clear x0 x1 x2 x3 y0 y1 y2 y3 m0 m1 m2 m3 m4 n0 n1 n2 n3 n4 p0 p1 p2 p3 q0 q1 q2 q3
      obtain ⟨x0, x1, x2, x3⟩ := cells4w Hx12.out
      obtain ⟨y0, y1, y2, y3⟩ := cells4w Hy12.out
      obtain ⟨m0, m1, m2, m3, m4⟩ := cells5 Hm12.out
      obtain ⟨n0, n1, n2, n3, n4⟩ := cells5 Hn12.out
      obtain ⟨p0, p1, p2, p3⟩ := cells4w Hp12.out
      obtain ⟨q0, q1, q2, q3⟩ := cells4w Hq12.out
      clear Hx11 Hy11 Hm11 Hn11 Hp11 Hq11 Hu11 Hv11 Ht11 HB11
      go_wp2_with fail
      refine (awake8_any _).mono ?_
      rintro e wd0 ⟨rfl, hb⟩
      have Hx13 := Lib.hid (Hx12.out.nxt hb)
      have Hy13 := Lib.hid (Hy12.out.nxt hb)
      have Hm13 := Lib.hid (Hm12.out.nxt hb)
      have Hn13 := Lib.hid (Hn12.out.nxt hb)
      have Hp13 := Lib.hid (Hp12.out.nxt hb)
      have Hq13 := Lib.hid (Hq12.out.nxt hb)
      have Hu13 := Lib.hid (Hu12.out.nxt hb)
      have Hv13 := Lib.hid (Hv12.out.nxt hb)
      have Ht13 := Lib.hid (Ht12.out.nxt hb)
      have HB13 := Lib.hid (below_nx HB12.out hb)
      clear hb
      clear x0 x1 x2 x3 y0 y1 y2 y3 m0 m1 m2 m3 m4 n0 n1 n2 n3 n4 p0 p1 p2 p3 q0 q1 q2 q3
      obtain ⟨x0, x1, x2, x3⟩ := cells4w Hx13.out
      obtain ⟨y0, y1, y2, y3⟩ := cells4w Hy13.out
      obtain ⟨m0, m1, m2, m3, m4⟩ := cells5 Hm13.out
      obtain ⟨n0, n1, n2, n3, n4⟩ := cells5 Hn13.out
      obtain ⟨p0, p1, p2, p3⟩ := cells4w Hp13.out
      obtain ⟨q0, q1, q2, q3⟩ := cells4w Hq13.out
      clear Hx12 Hy12 Hm12 Hn12 Hp12 Hq12 Hu12 Hv12 Ht12 HB12
      go_wp2_with fail
      go_ret
      exact ⟨rfl, HB13.out⟩

end Go.Proofs.Ytmjaakngiilmdaa
