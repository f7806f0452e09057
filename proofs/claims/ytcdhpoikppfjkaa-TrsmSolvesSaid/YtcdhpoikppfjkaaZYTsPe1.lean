/-
TrsmSolves, what isn't right, or doesn't fit. Conditions: as each says.
-/
import Derived.Test.YtcdhpoikppfjkaaWaav
set_option linter.unusedVariables false
set_option linter.unusedSimpArgs false
set_option linter.unnecessarySimpa false
namespace Go.Proofs.Ytcdhpoikppfjkaa
open Go.RowKit
attribute [local go_sem ↓] Go.wp_at_zero Go.wp_at_succ

set_option maxRecDepth 100000 in
set_option maxHeartbeats 4000000 in
theorem tsm_err1 (kd size : Int) (Am : Option Addr) (nm cm : Nat) (lm : List Nat) (mo mr mk ml : Int) (Ax : Option Addr) (nx cx : Nat) (lx : List Nat) (xo xr xk xl : Int) (one : Bool) (w : World) (hAm : Row w Am (f64s lm)) (hAx : Row w Ax (f64s lx)) (hWm : Wds lm) (hWx : Wds lx) (hlm : lm.length = nm) (hlx : lx.length = nx) (hnm : nm ≤ 1000) (hnx : nx ≤ 1000) (hG : greatB nm mr mk = false) (hGx : greatB nx xr xk = false) (hv : one = true ∧ 0 < nm) (hmo : I64 mo) (hmr : I64 mr) (hmk : I64 mk) (hml : I64 ml) (hxo : I64 xo) (hxr : I64 xr) (hxk : I64 xk) (hxl : I64 xl) (k1 k2 z1 b1 b2 q1 q2 : Bool) (hk1 : decide (kd < 1) = k1) (hk2 : decide (2 < kd) = k2) (hz1 : decide (size < 1) = z1) (hb1 : matB nm mo mr mk ml = b1) (hb2 : matB nm xo xr xk xl = b2) (hq1 : (mr != mk) = q1) (hq2 : (xr != mr) = q2) (E : Int) (hE : (k1 = true ∧ E = 1) ∨ (k1 = false ∧ k2 = true ∧ E = 1) ∨ (k1 = false ∧ k2 = false ∧ z1 = true ∧ E = 1) ∨ (k1 = false ∧ k2 = false ∧ z1 = false ∧ b1 = false ∧ E = 1) ∨ (k1 = false ∧ k2 = false ∧ z1 = false ∧ b1 = true ∧ b2 = false ∧ E = 1) ∨ (k1 = false ∧ k2 = false ∧ z1 = false ∧ b1 = true ∧ b2 = true ∧ q1 = true ∧ E = 3) ∨ (k1 = false ∧ k2 = false ∧ z1 = false ∧ b1 = true ∧ b2 = true ∧ q1 = false ∧ q2 = true ∧ E = 3)) (hPr : ∀ W (g cg : Nat) (hO : Own W g lm) , Calls Try.prog 8 #[.int .i64 kd, .int .i64 size, mat (some ⟨g, 0, none⟩) nm cg mo mr mk ml, mat (some ⟨g, 0, none⟩) nm cg xo xr xk xl] W fun e w' => e = .returned (.int .i64 E) ∧ Below W.heap.size W w') :
    Calls Try.prog 3 #[.int .i64 kd, .int .i64 size, mat Am nm cm mo mr mk ml, mat Ax nx cx xo xr xk xl, .bool one] w fun e w' => e = .returned (.bool true) ∧ Below w.heap.size w w' := by
  have HGr := Lib.hid (fun W => great_any Am nm cm mo mr mk ml W)
  have HGs := Lib.hid (fun W => great_any Ax nx cx xo xr xk xl W)
  rw [hG] at HGr
  rw [hGx] at HGs
  have HApm := Lib.hid (apart_c Am nm cm lm mo mr mk ml w hAm hlm (by omega))
  have HApx := Lib.hid (apart_c Am nm cm lm xo xr xk xl w hAm hlm (by omega))
  have HGm := Lib.hid (fun W => rgood_any Am nm cm mo mr mk ml W (by omega) hmo hmr hmk hml)
  have HGy := Lib.hid (fun W => rgood_any Am nm cm xo xr xk xl W (by omega) hxo hxr hxk hxl)
  have HAllm := Lib.hid (all_c lm nm hWm hlm (by omega))
  have HAllx := Lib.hid (all_c lm nm hWm hlm (by omega))
  have HAw := Lib.hid (fun W => awake14_any W)
  have HPr := Lib.hid hPr
  rw [hb1] at HGm
  rw [hb2] at HGy
  have HAm := Lib.hid hAm
  have HAx := Lib.hid hAm
  obtain ⟨rfl, hn0⟩ := hv
  have d1 : decide ((0 : Int) < (nm : Int)) = true := by simp; exact hn0
  have d2 : decide (0 < nm) = true := by simp; exact hn0
  clear hAm hAx hWm hWx hlm hlx hnm hnx hG hGx hPr hmo hmr hmk hml hxo hxr hxk hxl hb1 hb2 hn0
  unfold mat at *
  go_enter Try.func3, Try.ntmps3
  have Hm0 := Lib.hid ((Blk.new w 24 #[.slice Am nm cm, .int .i64 mo, .int .i64 mr, .int .i64 mk, .int .i64 ml]).alloc (.cells #[.slice Ax nx cx, .int .i64 xo, .int .i64 xr, .int .i64 xk, .int .i64 xl] 24))
  have Hx0 := Lib.hid (Blk.new_ (w.alloc (.cells #[.slice Am nm cm, .int .i64 mo, .int .i64 mr, .int .i64 mk, .int .i64 ml] 24)) 24 #[.slice Ax nx cx, .int .i64 xo, .int .i64 xr, .int .i64 xk, .int .i64 xl] (w.heap.size + 1) (by simp))
  have HB0 := Lib.hid (((Below.refl w.heap.size w).alloc (Nat.le_refl _) (.cells #[.slice Am nm cm, .int .i64 mo, .int .i64 mr, .int .i64 mk, .int .i64 ml] 24)).alloc (by simp) (.cells #[.slice Ax nx cx, .int .i64 xo, .int .i64 xr, .int .i64 xk, .int .i64 xl] 24))
  obtain ⟨m0, m1, m2, m3, m4⟩ := cells5 Hm0.out
  obtain ⟨x0, x1, x2, x3, x4⟩ := cells5 Hx0.out
  go_wp2_with fail
  refine (HAw.out _).mono ?_
  rintro e w1 ⟨rfl, hb⟩
  have Hm1 := Lib.hid (Hm0.out.nxt hb)
  have Hx1 := Lib.hid (Hx0.out.nxt hb)
  have HB1 := Lib.hid (below_nx HB0.out hb)
  clear hb
  clear m0 m1 m2 m3 m4 x0 x1 x2 x3 x4
  obtain ⟨m0, m1, m2, m3, m4⟩ := cells5 Hm1.out
  obtain ⟨x0, x1, x2, x3, x4⟩ := cells5 Hx1.out
  clear Hm0 Hx0 HB0
  go_wp2_with fail
  refine (HGr.out _).mono ?_
  rintro e w2 ⟨rfl, hb⟩
  have Hm2 := Lib.hid (Hm1.out.nxt hb)
  have Hx2 := Lib.hid (Hx1.out.nxt hb)
  have HB2 := Lib.hid (below_nx HB1.out hb)
  clear hb
  clear m0 m1 m2 m3 m4 x0 x1 x2 x3 x4
  obtain ⟨m0, m1, m2, m3, m4⟩ := cells5 Hm2.out
  obtain ⟨x0, x1, x2, x3, x4⟩ := cells5 Hx2.out
  clear Hm1 Hx1 HB1
  go_wp2_with fail
  refine (HGs.out _).mono ?_
  rintro e w3 ⟨rfl, hb⟩
  have Hm3 := Lib.hid (Hm2.out.nxt hb)
  have Hx3 := Lib.hid (Hx2.out.nxt hb)
  have HB3 := Lib.hid (below_nx HB2.out hb)
  clear hb
  clear m0 m1 m2 m3 m4 x0 x1 x2 x3 x4
  obtain ⟨m0, m1, m2, m3, m4⟩ := cells5 Hm3.out
  obtain ⟨x0, x1, x2, x3, x4⟩ := cells5 Hx3.out
  clear Hm2 Hx2 HB2
  obtain ⟨f0, _, _, _, _⟩ := frozen5 Hx3.out
  go_upto_region 8 with fail
  have hb9 : Blk (w3.setCell ⟨w.heap.size + 1, 0, none⟩ (.slice Am nm cm)) (w.heap.size + 1) 24 #[.slice Am nm cm, .int .i64 xo, .int .i64 xr, .int .i64 xk, .int .i64 xl] := by simpa using Hx3.out.set_ 0 (.slice Am nm cm)
  have Hm4 := Lib.hid (Hm3.out.other (p := ⟨w.heap.size + 1, 0, none⟩) ((by first | (simp; done) | (simp; omega))) (.slice Am nm cm))
  have Hx4 := Lib.hid hb9
  have HB4 := Lib.hid (HB3.out.setCell (p := ⟨w.heap.size + 1, 0, none⟩) ((by first | (simp; done) | (simp; omega))) (.slice Am nm cm))
  clear m0 m1 m2 m3 m4 x0 x1 x2 x3 x4
  clear hb9 f0
  generalize (w3.setCell ⟨w.heap.size + 1, 0, none⟩ (.slice Am nm cm)) = w3b at *
  obtain ⟨m0, m1, m2, m3, m4⟩ := cells5 Hm4.out
  obtain ⟨x0, x1, x2, x3, x4⟩ := cells5 Hx4.out
  clear Hm3 Hx3 HB3
  first | go_wp2_with fail | skip
  refine wp_region_inv [42, 43, 44, 45, 11, 12] (fun d s W => (d 0 = true → s 42 = .agg #[.slice Am nm cm, .int .i64 mo, .int .i64 mr, .int .i64 mk, .int .i64 ml]) ∧ (d 1 = true → OwM W (s 43) w3b.heap.size lm nm mo mr mk ml) ∧ (d 2 = true → s 44 = .agg #[.slice Am nm cm, .int .i64 xo, .int .i64 xr, .int .i64 xk, .int .i64 xl]) ∧ (d 3 = true → OwM W (s 45) w3b.heap.size lm nm xo xr xk xl) ∧ (d 4 = true → NbM W (s 11) w3b.heap.size) ∧ (d 5 = true → NbM W (s 12) w3b.heap.size) ∧ (d 6 = true → PqM W (s 11) (lb (s 43)) w3b.heap.size lm nm mo mr mk ml) ∧ (d 7 = true → PqM W (s 12) (lb (s 45)) w3b.heap.size lm nm xo xr xk xl) ∧ (d 6 = true → d 4 = true) ∧ (d 7 = true → d 5 = true) ∧ (d 4 = true → d 5 = true → s 11 ≠ s 12) ∧ (d 1 = true → d 3 = true → lb (s 43) ≠ lb (s 45)) ∧ (d 6 = true → d 1 = true) ∧ (d 7 = true → d 3 = true) ∧ Below w3b.heap.size w3b W)
    rfl (by kernel_rfl) ?_ ?_ ?_
  · exact ⟨by simp, by simp, by simp, by simp, by simp, by simp, by simp, by simp, by simp, by simp, by simp, by simp, by simp, by simp, (Below.refl _ _).drew⟩
  · refine ⟨?_, ?_, ?_, ?_, ?_, ?_, ?_, ?_, trivial⟩
    all_goals
      intro d s W hJ hfr hd hdep
      simp only [List.mem_cons, forall_eq_or_imp, List.not_mem_nil, false_implies, implies_true, and_true, Region.binds] at hdep
      have f7 := hfr 7 (by decide)
      have f8 := hfr 8 (by decide)
      simp at f7 f8 hdep
      obtain ⟨h0, h1, h2, h3, h4, h5, h6, h7, x0, x1, x2, x3, x4, x5, hT⟩ := hJ
    · as_aux_lemma =>
        unfold OpSteps
        obtain ⟨p0, p1, p2, p3, p4⟩ := cells5 (Hm4.out.below hT Hm4.out.lt)
        simp [go_sem, evS, f7, p0, p1, p2, p3, p4]
        exact ⟨fun _ => by simp [sput], fun h => by simpa [sput] using h1 (by simpa [did] using h), kpw h2, fun h => by simpa [sput] using h3 (by simpa [did] using h), fun h => by simpa [sput] using h4 (by simpa [did] using h), fun h => by simpa [sput] using h5 (by simpa [did] using h), fun h => by simpa [sput] using h6 (by simpa [did] using h), fun h => by simpa [sput] using h7 (by simpa [did] using h), by simpa [sput, did] using x0, by simpa [sput, did] using x1, by simpa [sput, did] using x2, by simpa [sput, did] using x3, by simpa [sput, did] using x4, by simpa [sput, did] using x5, hT⟩
    · as_aux_lemma =>
        have g0 := h0 (by simp [hdep])
        unfold OpSteps
        simp [go_sem, evS, g0]
        refine (HApm.out W (below_nx HB4.out hT)).mono ?_
        rintro e W' ⟨g9, c9, rfl, ho, hg, hb⟩
        refine ⟨_, rfl, ?_⟩
        exact ⟨kpw h0, fun _ => ⟨g9, c9, by simp [sput], ho, Nat.le_trans hT.size hg⟩, kpw h2, fun h => by simpa [sput] using (h3 (by simpa [did] using h)).below hb, fun h => by simpa [sput] using (h4 (by simpa [did] using h)).below hb, fun h => by simpa [sput] using (h5 (by simpa [did] using h)).below hb, fun h => by have := x4 (by simpa [did] using h); simp [hd] at this, fun h => by simpa [sput] using (h7 (by simpa [did] using h)).below hb, by simpa [sput, did] using x0, by simpa [sput, did] using x1, by simpa [sput, did] using x2, fun _ e3 => by have hq := (h3 (by simpa [did] using e3)).lb_lt; simp [sput, lb_mat]; omega, fun _ => by simp [did], by simpa [sput, did] using x5, below_nx hT hb⟩
    · as_aux_lemma =>
        unfold OpSteps
        obtain ⟨p0, p1, p2, p3, p4⟩ := cells5 (Hx4.out.below hT Hx4.out.lt)
        simp [go_sem, evS, f8, p0, p1, p2, p3, p4]
        exact ⟨kpw h0, fun h => by simpa [sput] using h1 (by simpa [did] using h), fun _ => by simp [sput], fun h => by simpa [sput] using h3 (by simpa [did] using h), fun h => by simpa [sput] using h4 (by simpa [did] using h), fun h => by simpa [sput] using h5 (by simpa [did] using h), fun h => by simpa [sput] using h6 (by simpa [did] using h), fun h => by simpa [sput] using h7 (by simpa [did] using h), by simpa [sput, did] using x0, by simpa [sput, did] using x1, by simpa [sput, did] using x2, by simpa [sput, did] using x3, by simpa [sput, did] using x4, by simpa [sput, did] using x5, hT⟩
    · as_aux_lemma =>
        have g2 := h2 (by simp [hdep])
        unfold OpSteps
        simp [go_sem, evS, g2]
        refine (HApx.out W (below_nx HB4.out hT)).mono ?_
        rintro e W' ⟨g9, c9, rfl, ho, hg, hb⟩
        refine ⟨_, rfl, ?_⟩
        exact ⟨kpw h0, fun h => by simpa [sput] using (h1 (by simpa [did] using h)).below hb, kpw h2, fun _ => ⟨g9, c9, by simp [sput], ho, Nat.le_trans hT.size hg⟩, fun h => by simpa [sput] using (h4 (by simpa [did] using h)).below hb, fun h => by simpa [sput] using (h5 (by simpa [did] using h)).below hb, fun h => by simpa [sput] using (h6 (by simpa [did] using h)).below hb, fun h => by have := x5 (by simpa [did] using h); simp [hd] at this, by simpa [sput, did] using x0, by simpa [sput, did] using x1, by simpa [sput, did] using x2, fun e1 _ => by have hq := (h1 (by simpa [did] using e1)).lb_lt; simp [sput, lb_mat]; omega, by simpa [sput, did] using x4, fun _ => by simp [did], below_nx hT hb⟩
    · as_aux_lemma =>
        unfold OpSteps
        simp [go_sem, evS]
        exact ⟨kpw h0, fun h => by simpa [sput] using (h1 (by simpa [did] using h)).below below_one, kpw h2, fun h => by simpa [sput] using (h3 (by simpa [did] using h)).below below_one, fun _ => ⟨W.heap.size, _, _, _, _, _, by simp [sput], Blk.new W _ _, hT.size⟩, fun h => by simpa [sput] using (h5 (by simpa [did] using h)).below below_one, fun h => by have := x0 (by simpa [did] using h); simp [hd] at this, fun h => by simpa [sput] using (h7 (by simpa [did] using h)).below below_one, fun _ => by simp [did], by simpa [sput, did] using x1, fun _ e8 => by have hq := (h5 (by simpa [did] using e8)).new_ne; simp [sput]; exact fun e => hq e.symm, by simpa [sput, did] using x3, by simpa [sput, did] using x4, by simpa [sput, did] using x5, below_al hT⟩
    · as_aux_lemma =>
        unfold OpSteps
        simp [go_sem, evS]
        exact ⟨kpw h0, fun h => by simpa [sput] using (h1 (by simpa [did] using h)).below below_one, kpw h2, fun h => by simpa [sput] using (h3 (by simpa [did] using h)).below below_one, fun h => by simpa [sput] using (h4 (by simpa [did] using h)).below below_one, fun _ => ⟨W.heap.size, _, _, _, _, _, by simp [sput], Blk.new W _ _, hT.size⟩, fun h => by simpa [sput] using (h6 (by simpa [did] using h)).below below_one, fun h => by have := x1 (by simpa [did] using h); simp [hd] at this, by simpa [sput, did] using x0, fun _ => by simp [did], fun e7 _ => by have hq := (h4 (by simpa [did] using e7)).new_ne; simp [sput]; exact hq, by simpa [sput, did] using x3, by simpa [sput, did] using x4, by simpa [sput, did] using x5, below_al hT⟩
    · as_aux_lemma =>
        have g4 := h4 (by simp [hdep])
        have g1 := h1 (by simp [hdep])
        unfold OpSteps
        obtain ⟨p9, z0, z1, z2, z3, z4, gp, hB9, hlo⟩ := g4
        obtain ⟨g9, c9, gv, gO, gz⟩ := g1
        have e7 : d 4 = true := by simp [hdep]
        obtain ⟨fr0, fr1, fr2, fr3, fr4⟩ := frozen5w hB9
        obtain ⟨k0, k1, k2, k3, k4⟩ := cells5 hB9
        have hfar : ∀ k9, k9 ≠ p9 → _ := fun k9 (hk9 : k9 ≠ p9) => heap_sets5 (w := W) hk9 (.slice (some ⟨g9, 0, none⟩) nm c9) (.int .i64 mo) (.int .i64 mr) (.int .i64 mk) (.int .i64 ml)
        simp [go_sem, evS, gp, gv, fr0, fr1, fr2, fr3, fr4, k0, k1, k2, k3, k4]
        exact ⟨kpw h0, fun h => by simpa [sput] using (h1 (by simpa [did] using h)).far hB9 (by decide) hfar, kpw h2, fun h => by simpa [sput] using (h3 (by simpa [did] using h)).far hB9 (by decide) hfar, fun h => ⟨p9, _, _, _, _, _, by simpa [sput] using gp, Blk.store5 hB9 _ _ _ _ _, hlo⟩, fun h => by simpa [sput] using (h5 (by simpa [did] using h)).far (fun e => x2 e7 (by simpa [did] using h) (gp.trans e.symm)) hfar, fun _ => by simp only [sput, gv, lb_mat]; exact ⟨p9, c9, by simpa using gp, Blk.store5 hB9 _ _ _ _ _, own_off gO (own_ne gO hB9 (by decide)) hfar, hlo, gz⟩, fun h => by simpa [sput] using (h7 (by simpa [did] using h)).far hB9 (by decide) (fun e => x2 e7 (x1 (by simpa [did] using h)) (gp.trans e.symm)) hfar, fun _ => by simp [did, hdep], by simpa [sput, did] using x1, by simpa [sput, did] using x2, by simpa [sput, did] using x3, fun _ => by simp [did, hdep], by simpa [sput, did] using x5, below_sets5 hT hlo _ _ _ _ _⟩
    · as_aux_lemma =>
        have g5 := h5 (by simp [hdep])
        have g3 := h3 (by simp [hdep])
        unfold OpSteps
        obtain ⟨p9, z0, z1, z2, z3, z4, gp, hB9, hlo⟩ := g5
        obtain ⟨g9, c9, gv, gO, gz⟩ := g3
        have e7 : d 5 = true := by simp [hdep]
        obtain ⟨fr0, fr1, fr2, fr3, fr4⟩ := frozen5w hB9
        obtain ⟨k0, k1, k2, k3, k4⟩ := cells5 hB9
        have hfar : ∀ k9, k9 ≠ p9 → _ := fun k9 (hk9 : k9 ≠ p9) => heap_sets5 (w := W) hk9 (.slice (some ⟨g9, 0, none⟩) nm c9) (.int .i64 xo) (.int .i64 xr) (.int .i64 xk) (.int .i64 xl)
        simp [go_sem, evS, gp, gv, fr0, fr1, fr2, fr3, fr4, k0, k1, k2, k3, k4]
        exact ⟨kpw h0, fun h => by simpa [sput] using (h1 (by simpa [did] using h)).far hB9 (by decide) hfar, kpw h2, fun h => by simpa [sput] using (h3 (by simpa [did] using h)).far hB9 (by decide) hfar, fun h => by simpa [sput] using (h4 (by simpa [did] using h)).far (fun e => x2 (by simpa [did] using h) e7 (e.trans gp.symm)) hfar, fun h => ⟨p9, _, _, _, _, _, by simpa [sput] using gp, Blk.store5 hB9 _ _ _ _ _, hlo⟩, fun h => by simpa [sput] using (h6 (by simpa [did] using h)).far hB9 (by decide) (fun e => x2 (x0 (by simpa [did] using h)) e7 (e.trans gp.symm)) hfar, fun _ => by simp only [sput, gv, lb_mat]; exact ⟨p9, c9, by simpa using gp, Blk.store5 hB9 _ _ _ _ _, own_off gO (own_ne gO hB9 (by decide)) hfar, hlo, gz⟩, by simpa [sput, did] using x0, fun _ => by simp [did, hdep], by simpa [sput, did] using x2, by simpa [sput, did] using x3, by simpa [sput, did] using x4, fun _ => by simp [did, hdep], below_sets5 hT hlo _ _ _ _ _⟩
  intro d s W hJ hd
  obtain ⟨h0, h1, h2, h3, h4, h5, h6, h7, x0, x1, x2, x3, x4, x5, hT⟩ := hJ
  have hgx := x3 (hd 1 (by decide)) (hd 3 (by decide))
  have h6' := h6 (hd 6 (by decide))
  have h7' := h7 (hd 7 (by decide))
  have hpx := x2 (hd 4 (by decide)) (hd 5 (by decide))
  clear h0 h1 h2 h3 h4 h5 h6 h7 x0 x1 x2 x3 x4 x5 hd
  generalize lb (s 43) = gn at *
  generalize lb (s 45) = gp at *
  obtain ⟨pn, cn, hs11, hBn, hOn, hnl, hgl⟩ := h6'
  obtain ⟨pp, cp9, hs12, hBp, hOp, hpl, hgl2⟩ := h7'
  have hnp : pn ≠ pp := fun e => hpx (by rw [hs11, hs12, e])
  have hb : Below w3b.heap.size w3b W := hT
  clear hpx hT
  simp [setAll, hs11, hs12]
  clear hs11 hs12
  generalize s 42 = s42
  generalize s 43 = s43
  generalize s 44 = s44
  generalize s 45 = s45
  have hy5 : w.heap.size + 1 < w3b.heap.size := Hx4.out.lt
  have HNe := Lib.hid (show gp ≠ gn ∧ pn ≠ pp ∧ w.heap.size + 1 < pn ∧ w.heap.size + 1 < pp ∧ w.heap.size + 1 < gn ∧ w.heap.size + 1 < gp from by refine ⟨fun e => hgx e.symm, hnp, by omega, by omega, by omega, by omega⟩)
  clear hy5 hnp hgx hnl hgl hpl hgl2
  generalize hW6 : W = w6 at *
  clear hW6
  have Hm5 := Lib.hid (Hm4.out.nxt hb)
  have Hx5 := Lib.hid (Hx4.out.nxt hb)
  have HB5 := Lib.hid (below_nx HB4.out hb)
  clear hb
  clear m0 m1 m2 m3 m4 x0 x1 x2 x3 x4
  obtain ⟨m0, m1, m2, m3, m4⟩ := cells5 Hm5.out
  obtain ⟨x0, x1, x2, x3, x4⟩ := cells5 Hx5.out
  clear Hm4 Hx4 HB4
  have Hn5 := Lib.hid hBn
  have Hp5 := Lib.hid hBp
  have Hu5 := Lib.hid hOn
  have Hv5 := Lib.hid hOp
  clear hBn hBp hOn hOp
  clear m0 m1 m2 m3 m4 x0 x1 x2 x3 x4
  clear HApm HApx HGr HGs
  obtain ⟨m0, m1, m2, m3, m4⟩ := cells5 Hm5.out
  obtain ⟨x0, x1, x2, x3, x4⟩ := cells5 Hx5.out
  obtain ⟨n0, n1, n2, n3, n4⟩ := cells5 Hn5.out
  obtain ⟨p0, p1, p2, p3, p4⟩ := cells5 Hp5.out
  obtain ⟨f0, _, _, _, _⟩ := frozen5 Hp5.out
  go_upto_region 11 with fail
  have hb9 : Blk (w6.setCell ⟨pp, 0, none⟩ (.slice (some ⟨gn, 0, none⟩) nm cn)) (pp) 24 #[.slice (some ⟨gn, 0, none⟩) nm cn, .int .i64 xo, .int .i64 xr, .int .i64 xk, .int .i64 xl] := by simpa using Hp5.out.set_ 0 (.slice (some ⟨gn, 0, none⟩) nm cn)
  have Hm6 := Lib.hid (Hm5.out.other (p := ⟨pp, 0, none⟩) ((by have := HNe.out; simp; omega)) (.slice (some ⟨gn, 0, none⟩) nm cn))
  have Hx6 := Lib.hid (Hx5.out.other (p := ⟨pp, 0, none⟩) ((by have := HNe.out; simp; omega)) (.slice (some ⟨gn, 0, none⟩) nm cn))
  have Hn6 := Lib.hid (Hn5.out.other (p := ⟨pp, 0, none⟩) ((by have := HNe.out; simp; omega)) (.slice (some ⟨gn, 0, none⟩) nm cn))
  have Hu6 := Lib.hid (Hu5.out.other (p := ⟨pp, 0, none⟩) (own_ne Hu5.out Hp5.out (by decide)) (.slice (some ⟨gn, 0, none⟩) nm cn))
  have Hv6 := Lib.hid (Hv5.out.other (p := ⟨pp, 0, none⟩) (own_ne Hv5.out Hp5.out (by decide)) (.slice (some ⟨gn, 0, none⟩) nm cn))
  have Hp6 := Lib.hid hb9
  have HB6 := Lib.hid (HB5.out.setCell (p := ⟨pp, 0, none⟩) ((by have := HNe.out; simp; omega)) (.slice (some ⟨gn, 0, none⟩) nm cn))
  clear m0 m1 m2 m3 m4 x0 x1 x2 x3 x4 n0 n1 n2 n3 n4 p0 p1 p2 p3 p4
  clear hb9 f0
  generalize (w6.setCell ⟨pp, 0, none⟩ (.slice (some ⟨gn, 0, none⟩) nm cn)) = w7 at *
  obtain ⟨m0, m1, m2, m3, m4⟩ := cells5 Hm6.out
  obtain ⟨x0, x1, x2, x3, x4⟩ := cells5 Hx6.out
  obtain ⟨n0, n1, n2, n3, n4⟩ := cells5 Hn6.out
  obtain ⟨p0, p1, p2, p3, p4⟩ := cells5 Hp6.out
  clear Hm5 Hx5 Hn5 Hp5 Hu5 Hv5 HB5
  go_wp2_with fail
  refine (HPr.out _ gn cn Hu6.out).mono ?_
  rintro e w8 ⟨rfl, hb⟩
  have Hm7 := Lib.hid (Hm6.out.nxt hb)
  have Hx7 := Lib.hid (Hx6.out.nxt hb)
  have Hn7 := Lib.hid (Hn6.out.nxt hb)
  have Hp7 := Lib.hid (Hp6.out.nxt hb)
  have Hu7 := Lib.hid (Hu6.out.nxt hb)
  have Hv7 := Lib.hid (Hv6.out.nxt hb)
  have HB7 := Lib.hid (below_nx HB6.out hb)
  clear hb
  clear m0 m1 m2 m3 m4 x0 x1 x2 x3 x4 n0 n1 n2 n3 n4 p0 p1 p2 p3 p4
  obtain ⟨m0, m1, m2, m3, m4⟩ := cells5 Hm7.out
  obtain ⟨x0, x1, x2, x3, x4⟩ := cells5 Hx7.out
  obtain ⟨n0, n1, n2, n3, n4⟩ := cells5 Hn7.out
  obtain ⟨p0, p1, p2, p3, p4⟩ := cells5 Hp7.out
  clear Hm6 Hx6 Hn6 Hp6 Hu6 Hv6 HB6
  clear HPr
  go_upto_region 14 with fail
  have HLt := Lib.hid (show pn < w8.heap.size ∧ pp < w8.heap.size from ⟨Hn7.out.lt, Hp7.out.lt⟩)
  have hba := below_one (W := w8) (o := (.cells #[.int .i64 0, .int .i64 0, .slice none 0 0] 31))
  have HTn := Lib.hid (Blk.new w8 31 #[.int .i64 0, .int .i64 0, .slice none 0 0])
  have Hm8 := Lib.hid (Hm7.out.nxt hba)
  have Hx8 := Lib.hid (Hx7.out.nxt hba)
  have Hn8 := Lib.hid (Hn7.out.nxt hba)
  have Hp8 := Lib.hid (Hp7.out.nxt hba)
  have Hu8 := Lib.hid (Hu7.out.nxt hba)
  have Hv8 := Lib.hid (Hv7.out.nxt hba)
  have HB8 := Lib.hid (below_nx HB7.out hba)
  clear hba
  clear m0 m1 m2 m3 m4 x0 x1 x2 x3 x4 n0 n1 n2 n3 n4 p0 p1 p2 p3 p4
  obtain ⟨m0, m1, m2, m3, m4⟩ := cells5 Hm8.out
  obtain ⟨x0, x1, x2, x3, x4⟩ := cells5 Hx8.out
  obtain ⟨n0, n1, n2, n3, n4⟩ := cells5 Hn8.out
  obtain ⟨p0, p1, p2, p3, p4⟩ := cells5 Hp8.out
  clear Hm7 Hx7 Hn7 Hp7 Hu7 Hv7 HB7
  clear m0 m1 m2 m3 m4 x0 x1 x2 x3 x4 n0 n1 n2 n3 n4 p0 p1 p2 p3 p4
  have HZt := Lib.hid (show pn < w8.heap.size ∧ pp < w8.heap.size ∧ w.heap.size + 1 < w8.heap.size from by have h1 := Hn8.out.lt; have h2 := HNe.out; have h3 := HTn.out.lt; simp at h1 h3; exact ⟨HLt.out.1, HLt.out.2, by omega⟩)
  generalize hzs : w8.heap.size = zt at *
  generalize w8.alloc (.cells #[.int .i64 0, .int .i64 0, .slice none 0 0] 31) = wz at *
  clear hzs HLt
  have Ht8 := HTn
  clear HTn
  obtain ⟨m0, m1, m2, m3, m4⟩ := cells5 Hm8.out
  obtain ⟨x0, x1, x2, x3, x4⟩ := cells5 Hx8.out
  obtain ⟨n0, n1, n2, n3, n4⟩ := cells5 Hn8.out
  obtain ⟨p0, p1, p2, p3, p4⟩ := cells5 Hp8.out
  obtain ⟨t0, t1, t2⟩ := cells3v Ht8.out
  have Hm := Hm8
  have Hx := Hx8
  have Hn := Hn8
  have Hp := Hp8
  have Ht := Ht8
  have Hu := Hu8
  have Hv := Hv8
  have HB := HB8
  clear Hm8 Hx8 Hn8 Hp8 Ht8 Hu8 Hv8 HB8
  rcases hE with ⟨rfl, rfl⟩ | ⟨rfl, rfl, rfl⟩ | ⟨rfl, rfl, rfl, rfl⟩ | ⟨rfl, rfl, rfl, rfl, rfl⟩ | ⟨rfl, rfl, rfl, rfl, rfl, rfl⟩ | ⟨rfl, rfl, rfl, rfl, rfl, rfl, rfl⟩ | ⟨rfl, rfl, rfl, rfl, rfl, rfl, rfl, rfl⟩
  all_goals
    repeat
      go_wp2_with fail
      first | with_reducible refine (HGm.out _).mono ?_ | with_reducible refine (HGy.out _).mono ?_ | with_reducible refine (HAllm.out _ _ _ _ _ Hu.out.row (HAm.out.below HB.out)).mono ?_ | with_reducible refine (HAllx.out _ _ _ _ _ Hu.out.row (HAx.out.below HB.out)).mono ?_ | with_reducible refine (HAw.out _).mono ?_
      rintro e w9 ⟨rfl, hb⟩
      replace Hm := Lib.hid (Hm.out.nxt hb)
      replace Hx := Lib.hid (Hx.out.nxt hb)
      replace Hn := Lib.hid (Hn.out.nxt hb)
      replace Hp := Lib.hid (Hp.out.nxt hb)
      replace Ht := Lib.hid (Ht.out.nxt hb)
      replace Hu := Lib.hid (Hu.out.nxt hb)
      replace Hv := Lib.hid (Hv.out.nxt hb)
      replace HB := Lib.hid (below_nx HB.out hb)
      clear hb m0 m1 m2 m3 m4 x0 x1 x2 x3 x4 n0 n1 n2 n3 n4 p0 p1 p2 p3 p4 t0 t1 t2
      obtain ⟨m0, m1, m2, m3, m4⟩ := cells5 Hm.out
      obtain ⟨x0, x1, x2, x3, x4⟩ := cells5 Hx.out
      obtain ⟨n0, n1, n2, n3, n4⟩ := cells5 Hn.out
      obtain ⟨p0, p1, p2, p3, p4⟩ := cells5 Hp.out
      obtain ⟨t0, t1, t2⟩ := cells3v Ht.out
    go_wp2_with fail
    go_ret
    exact ⟨rfl, HB.out⟩

end Go.Proofs.Ytcdhpoikppfjkaa
