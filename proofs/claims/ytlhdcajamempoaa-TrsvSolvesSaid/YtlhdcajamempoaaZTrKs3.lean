/-
TrsvSolves, sizes. Conditions: as each says.
-/
import Derived.Test.YtlhdcajamempoaaZTrM
import Derived.Test.YtlhdcajamempoaaRal
import Derived.Test.YtlhdcajamempoaaRam
import Derived.Test.YtlhdcajamempoaaZMvS
set_option linter.unusedVariables false
set_option linter.unusedSimpArgs false
set_option linter.unnecessarySimpa false
namespace Go.Proofs.Ytlhdcajamempoaa
open Go.RowKit
attribute [local go_sem ↓] Go.wp_at_zero Go.wp_at_succ

set_option maxRecDepth 100000 in
set_option maxHeartbeats 4000000 in
theorem trs_size3 (kd : Int) (Am : Option Addr) (nm cm : Nat) (lm : List Nat) (mo mr mk ml : Int) (Ax : Option Addr) (nx cx : Nat) (lx : List Nat) (xo xk xi : Int) (w : World) (hAm : Row w Am (f64s lm)) (hAx : Row w Ax (f64s lx)) (hWm : Wds lm) (hWx : Wds lx) (hlm : lm.length = nm) (hlx : lx.length = nx) (hnm : nm ≤ 1000) (hnx : nx ≤ 1000) (hG : greatB nm mr mk = false) (hLx : longB nx xk = false) (hn0 : nm = 0) (hmo : I64 mo) (hmr : I64 mr) (hmk : I64 mk) (hml : I64 ml) (hxo : I64 xo) (hxk : I64 xk) (hxi : I64 xi) (h : ((trK kd && matB nm mo mr mk ml) && vecB nx xo xk xi) = true) (hs : ((mr == xk) && (mk == xk)) = false) :
    Calls Try.prog 4 #[.int .i64 kd, mat Am nm cm mo mr mk ml, vec Ax nx cx xo xk xi, .bool true] w fun e w' => e = .returned (.bool true) ∧ Below w.heap.size w w' := by
  have HGr := Lib.hid (fun W => great_any Am nm cm mo mr mk ml W)
  have HLx := Lib.hid (fun W => long_any Ax nx cx xo xk xi W)
  rw [hG] at HGr
  rw [hLx] at HLx
  have HAp := Lib.hid (apart_c Am nm cm lm mo mr mk ml w hAm hlm (by omega))
  have HAl := Lib.hid (alone_c Ax nx cx lx xo xk xi w hAx hlx (by omega))
  have HGm := Lib.hid (fun W => rgood_any Am nm cm mo mr mk ml W (by omega) hmo hmr hmk hml)
  have HRx := Lib.hid (fun W => rright_any Ax nx cx xo xk xi W (by omega) hxo hxk hxi)
  have HAllm := Lib.hid (all_c lm nm hWm hlm (by omega))
  have HAllx := Lib.hid (all_c lx nx hWx hlx (by omega))
  have HPr := Lib.hid (fun W (g cg gx cx9 : Nat) => trsv_size kd (some ⟨g, 0, none⟩) nm cg mo mr mk ml (some ⟨gx, 0, none⟩) nx cx9 xo xk xi W (by omega) hmo hmr hmk hml (by omega) hxo hxk hxi h hs)
  have h2 := Bool.and_eq_true_iff.1 h
  have h3 := Bool.and_eq_true_iff.1 h2.1
  rw [h3.2] at HGm
  rw [h2.2] at HRx
  have hk := h3.1
  unfold trK at hk
  simp at hk
  have e1 : decide (kd < 1) = false := decide_eq_false (by omega)
  have e2 : decide (4 < kd) = false := decide_eq_false (by omega)
  obtain ⟨b1, hb1⟩ : ∃ b, (mr != mk) = b := ⟨_, rfl⟩
  obtain ⟨b2, hb2⟩ : ∃ b, (xk != mr) = b := ⟨_, rfl⟩
  have hbb : b1 = true ∨ (b1 = false ∧ b2 = true) := by
    rw [← hb1, ← hb2]
    simp at hs ⊢
    omega
  have hb1' : (mr == mk) = !b1 := by rw [← hb1]; show _ = !(!(mr == mk)); rw [Bool.not_not]
  have hb2' : (xk == mr) = !b2 := by rw [← hb2]; show _ = !(!(xk == mr)); rw [Bool.not_not]
  clear h2 h3 hk
  have HAm := Lib.hid hAm
  have HAx := Lib.hid hAx
  have d1 : decide ((0 : Int) < (nm : Int)) = false := by rw [hn0]; rfl
  have d2 : decide (0 < nm) = false := by rw [hn0]; rfl
  clear hAm hAx hWm hWx hlm hlx hnm hnx hG hLx hn0 hmo hmr hmk hml hxo hxk hxi h hs
  unfold mat vec at *
  go_enter Try.func4, Try.ntmps4
  have Hm0 := Lib.hid ((Blk.new w 26 #[.slice Am nm cm, .int .i64 mo, .int .i64 mr, .int .i64 mk, .int .i64 ml]).alloc (.cells #[.slice Ax nx cx, .int .i64 xo, .int .i64 xk, .int .i64 xi] 32))
  have Hx0 := Lib.hid (Blk.new_ (w.alloc (.cells #[.slice Am nm cm, .int .i64 mo, .int .i64 mr, .int .i64 mk, .int .i64 ml] 26)) 32 #[.slice Ax nx cx, .int .i64 xo, .int .i64 xk, .int .i64 xi] (w.heap.size + 1) (by simp))
  have HB0 := Lib.hid (((Below.refl w.heap.size w).alloc (Nat.le_refl _) (.cells #[.slice Am nm cm, .int .i64 mo, .int .i64 mr, .int .i64 mk, .int .i64 ml] 26)).alloc (by simp) (.cells #[.slice Ax nx cx, .int .i64 xo, .int .i64 xk, .int .i64 xi] 32))
  obtain ⟨m0, m1, m2, m3, m4⟩ := cells5 Hm0.out
  obtain ⟨x0, x1, x2, x3⟩ := cells4w Hx0.out
  go_wp2_with fail
  refine (awake9_any _).mono ?_
  rintro e w1 ⟨rfl, hb⟩
  have Hm1 := Lib.hid (Hm0.out.nxt hb)
  have Hx1 := Lib.hid (Hx0.out.nxt hb)
  have HB1 := Lib.hid (below_nx HB0.out hb)
  clear hb
  clear m0 m1 m2 m3 m4 x0 x1 x2 x3
  obtain ⟨m0, m1, m2, m3, m4⟩ := cells5 Hm1.out
  obtain ⟨x0, x1, x2, x3⟩ := cells4w Hx1.out
  clear Hm0 Hx0 HB0
  go_wp2_with fail
  refine (HGr.out _).mono ?_
  rintro e w2 ⟨rfl, hb⟩
  have Hm2 := Lib.hid (Hm1.out.nxt hb)
  have Hx2 := Lib.hid (Hx1.out.nxt hb)
  have HB2 := Lib.hid (below_nx HB1.out hb)
  clear hb
  clear m0 m1 m2 m3 m4 x0 x1 x2 x3
  obtain ⟨m0, m1, m2, m3, m4⟩ := cells5 Hm2.out
  obtain ⟨x0, x1, x2, x3⟩ := cells4w Hx2.out
  clear Hm1 Hx1 HB1
  go_wp2_with fail
  refine (HLx.out _).mono ?_
  rintro e w3 ⟨rfl, hb⟩
  have Hm3 := Lib.hid (Hm2.out.nxt hb)
  have Hx3 := Lib.hid (Hx2.out.nxt hb)
  have HB3 := Lib.hid (below_nx HB2.out hb)
  clear hb
  clear m0 m1 m2 m3 m4 x0 x1 x2 x3
  obtain ⟨m0, m1, m2, m3, m4⟩ := cells5 Hm3.out
  obtain ⟨x0, x1, x2, x3⟩ := cells4w Hx3.out
  clear Hm2 Hx2 HB2
  go_wp2_with fail
  refine wp_region_inv [40, 41, 42, 43, 9, 10] (fun d s W => (d 0 = true → s 40 = .agg #[.slice Am nm cm, .int .i64 mo, .int .i64 mr, .int .i64 mk, .int .i64 ml]) ∧ (d 1 = true → OwM W (s 41) w3.heap.size lm nm mo mr mk ml) ∧ (d 2 = true → s 42 = .agg #[.slice Ax nx cx, .int .i64 xo, .int .i64 xk, .int .i64 xi]) ∧ (d 3 = true → OwV W (s 43) w3.heap.size lx nx xo xk xi) ∧ (d 4 = true → NbM W (s 9) w3.heap.size) ∧ (d 5 = true → NbV W (s 10) w3.heap.size) ∧ (d 6 = true → PqM W (s 9) (lb (s 41)) w3.heap.size lm nm mo mr mk ml) ∧ (d 7 = true → PqV W (s 10) (lb (s 43)) w3.heap.size lx nx xo xk xi) ∧ (d 6 = true → d 4 = true) ∧ (d 7 = true → d 5 = true) ∧ (d 1 = true → d 3 = true → lb (s 41) ≠ lb (s 43)) ∧ (d 6 = true → d 1 = true) ∧ (d 7 = true → d 3 = true) ∧ Below w3.heap.size w3 W)
    rfl (by kernel_rfl) ?_ ?_ ?_
  · exact ⟨by simp, by simp, by simp, by simp, by simp, by simp, by simp, by simp, by simp, by simp, by simp, by simp, by simp, (Below.refl _ _).drew⟩
  · refine ⟨?_, ?_, ?_, ?_, ?_, ?_, ?_, ?_, trivial⟩
    all_goals
      intro d s W hJ hfr hd hdep
      simp only [List.mem_cons, forall_eq_or_imp, List.not_mem_nil, false_implies, implies_true, and_true, Region.binds] at hdep
      have f5 := hfr 5 (by decide)
      have f6 := hfr 6 (by decide)
      simp at f5 f6 hdep
      obtain ⟨h0, h1, h2, h3, h4, h5, h6, h7, x0, x1, x2, x3, x4, hT⟩ := hJ
    · as_aux_lemma =>
        unfold OpSteps
        obtain ⟨p0, p1, p2, p3, p4⟩ := cells5 (Hm3.out.below hT Hm3.out.lt)
        simp [go_sem, evS, f5, p0, p1, p2, p3, p4]
        exact ⟨fun _ => by simp [sput], fun h => by simpa [sput] using h1 (by simpa [did] using h), kpw h2, fun h => by simpa [sput] using h3 (by simpa [did] using h), fun h => by simpa [sput] using h4 (by simpa [did] using h), fun h => by simpa [sput] using h5 (by simpa [did] using h), fun h => by simpa [sput] using h6 (by simpa [did] using h), fun h => by simpa [sput] using h7 (by simpa [did] using h), by simpa [sput, did] using x0, by simpa [sput, did] using x1, by simpa [sput, did] using x2, by simpa [sput, did] using x3, by simpa [sput, did] using x4, hT⟩
    · as_aux_lemma =>
        have g0 := h0 (by simp [hdep])
        unfold OpSteps
        simp [go_sem, evS, g0]
        refine (HAp.out W (below_nx HB3.out hT)).mono ?_
        rintro e W' ⟨g9, c9, rfl, ho, hg, hb⟩
        refine ⟨_, rfl, ?_⟩
        exact ⟨kpw h0, fun _ => ⟨g9, c9, by simp [sput], ho, Nat.le_trans hT.size hg⟩, kpw h2, fun h => by simpa [sput] using (h3 (by simpa [did] using h)).below hb, fun h => by simpa [sput] using (h4 (by simpa [did] using h)).below hb, fun h => by simpa [sput] using (h5 (by simpa [did] using h)).below hb, fun h => by have := x3 (by simpa [did] using h); simp [hd] at this, fun h => by simpa [sput] using (h7 (by simpa [did] using h)).below hb, by simpa [sput, did] using x0, by simpa [sput, did] using x1, fun _ e3 => by have hq := (h3 (by simpa [did] using e3)).lb_lt; simp [sput, lb_mat]; omega, fun _ => by simp [did], by simpa [sput, did] using x4, below_nx hT hb⟩
    · as_aux_lemma =>
        unfold OpSteps
        obtain ⟨p0, p1, p2, p3⟩ := cells4w (Hx3.out.below hT Hx3.out.lt)
        simp [go_sem, evS, f6, p0, p1, p2, p3]
        exact ⟨kpw h0, fun h => by simpa [sput] using h1 (by simpa [did] using h), fun _ => by simp [sput], fun h => by simpa [sput] using h3 (by simpa [did] using h), fun h => by simpa [sput] using h4 (by simpa [did] using h), fun h => by simpa [sput] using h5 (by simpa [did] using h), fun h => by simpa [sput] using h6 (by simpa [did] using h), fun h => by simpa [sput] using h7 (by simpa [did] using h), by simpa [sput, did] using x0, by simpa [sput, did] using x1, by simpa [sput, did] using x2, by simpa [sput, did] using x3, by simpa [sput, did] using x4, hT⟩
    · as_aux_lemma =>
        have g2 := h2 (by simp [hdep])
        unfold OpSteps
        simp [go_sem, evS, g2]
        refine (HAl.out W (below_nx HB3.out hT)).mono ?_
        rintro e W' ⟨g9, c9, rfl, ho, hg, hb⟩
        refine ⟨_, rfl, ?_⟩
        exact ⟨kpw h0, fun h => by simpa [sput] using (h1 (by simpa [did] using h)).below hb, kpw h2, fun _ => ⟨g9, c9, by simp [sput], ho, Nat.le_trans hT.size hg⟩, fun h => by simpa [sput] using (h4 (by simpa [did] using h)).below hb, fun h => by simpa [sput] using (h5 (by simpa [did] using h)).below hb, fun h => by simpa [sput] using (h6 (by simpa [did] using h)).below hb, fun h => by have := x4 (by simpa [did] using h); simp [hd] at this, by simpa [sput, did] using x0, by simpa [sput, did] using x1, fun e1 _ => by have hq := (h1 (by simpa [did] using e1)).lb_lt; simp [sput, lb_vec]; omega, by simpa [sput, did] using x3, fun _ => by simp [did], below_nx hT hb⟩
    · as_aux_lemma =>
        unfold OpSteps
        simp [go_sem, evS]
        exact ⟨kpw h0, fun h => by simpa [sput] using (h1 (by simpa [did] using h)).below below_one, kpw h2, fun h => by simpa [sput] using (h3 (by simpa [did] using h)).below below_one, fun _ => ⟨W.heap.size, _, _, _, _, _, by simp [sput], Blk.new W _ _, hT.size⟩, fun h => by simpa [sput] using (h5 (by simpa [did] using h)).below below_one, fun h => by have := x0 (by simpa [did] using h); simp [hd] at this, fun h => by simpa [sput] using (h7 (by simpa [did] using h)).below below_one, fun _ => by simp [did], by simpa [sput, did] using x1, by simpa [sput, did] using x2, by simpa [sput, did] using x3, by simpa [sput, did] using x4, below_al hT⟩
    · as_aux_lemma =>
        unfold OpSteps
        simp [go_sem, evS]
        exact ⟨kpw h0, fun h => by simpa [sput] using (h1 (by simpa [did] using h)).below below_one, kpw h2, fun h => by simpa [sput] using (h3 (by simpa [did] using h)).below below_one, fun h => by simpa [sput] using (h4 (by simpa [did] using h)).below below_one, fun _ => ⟨W.heap.size, _, _, _, _, by simp [sput], Blk.new W _ _, hT.size⟩, fun h => by simpa [sput] using (h6 (by simpa [did] using h)).below below_one, fun h => by have := x1 (by simpa [did] using h); simp [hd] at this, by simpa [sput, did] using x0, fun _ => by simp [did], by simpa [sput, did] using x2, by simpa [sput, did] using x3, by simpa [sput, did] using x4, below_al hT⟩
    · as_aux_lemma =>
        have g4 := h4 (by simp [hdep])
        have g1 := h1 (by simp [hdep])
        unfold OpSteps
        obtain ⟨p9, z0, z1, z2, z3, z4, gp, hB9, hlo⟩ := g4
        obtain ⟨g9, c9, gv, gO, gz⟩ := g1
        obtain ⟨fr0, fr1, fr2, fr3, fr4⟩ := frozen5w hB9
        obtain ⟨k0, k1, k2, k3, k4⟩ := cells5 hB9
        have hfar : ∀ k9, k9 ≠ p9 → _ := fun k9 (hk9 : k9 ≠ p9) => heap_sets5 (w := W) hk9 (.slice (some ⟨g9, 0, none⟩) nm c9) (.int .i64 mo) (.int .i64 mr) (.int .i64 mk) (.int .i64 ml)
        simp [go_sem, evS, gp, gv, fr0, fr1, fr2, fr3, fr4, k0, k1, k2, k3, k4]
        exact ⟨kpw h0, fun h => by simpa [sput] using (h1 (by simpa [did] using h)).far hB9 (by decide) hfar, kpw h2, fun h => by simpa [sput] using (h3 (by simpa [did] using h)).far hB9 (by decide) hfar, fun h => ⟨p9, _, _, _, _, _, by simpa [sput] using gp, Blk.store5 hB9 _ _ _ _ _, hlo⟩, fun h => by simpa [sput] using (h5 (by simpa [did] using h)).far ((h5 (by simpa [did] using h)).ne_ hB9 (by decide)) hfar, fun _ => by simp only [sput, gv, lb_mat]; exact ⟨p9, c9, by simpa using gp, Blk.store5 hB9 _ _ _ _ _, own_off gO (own_ne gO hB9 (by decide)) hfar, hlo, gz⟩, fun h => by simpa [sput] using (h7 (by simpa [did] using h)).far hB9 (by decide) ((h5 (x1 (by simpa [did] using h))).ne_ hB9 (by decide)) hfar, fun _ => by simp [did, hdep], by simpa [sput, did] using x1, by simpa [sput, did] using x2, fun _ => by simp [did, hdep], by simpa [sput, did] using x4, below_sets5 hT hlo _ _ _ _ _⟩
    · as_aux_lemma =>
        have g5 := h5 (by simp [hdep])
        have g3 := h3 (by simp [hdep])
        unfold OpSteps
        obtain ⟨p9, z0, z1, z2, z3, gp, hB9, hlo⟩ := g5
        obtain ⟨g9, c9, gv, gO, gz⟩ := g3
        obtain ⟨fr0, fr1, fr2, fr3⟩ := frozen4w hB9
        obtain ⟨k0, k1, k2, k3⟩ := cells4w hB9
        have hfar : ∀ k9, k9 ≠ p9 → _ := fun k9 (hk9 : k9 ≠ p9) => heap_sets4 (w := W) hk9 (.slice (some ⟨g9, 0, none⟩) nx c9) (.int .i64 xo) (.int .i64 xk) (.int .i64 xi)
        simp [go_sem, evS, gp, gv, fr0, fr1, fr2, fr3, k0, k1, k2, k3]
        exact ⟨kpw h0, fun h => by simpa [sput] using (h1 (by simpa [did] using h)).far hB9 (by decide) hfar, kpw h2, fun h => by simpa [sput] using (h3 (by simpa [did] using h)).far hB9 (by decide) hfar, fun h => by simpa [sput] using (h4 (by simpa [did] using h)).far ((h4 (by simpa [did] using h)).ne_ hB9 (by decide)) hfar, fun h => ⟨p9, _, _, _, _, by simpa [sput] using gp, Blk.store4v hB9 _ _ _ _, hlo⟩, fun h => by simpa [sput] using (h6 (by simpa [did] using h)).far hB9 (by decide) ((h4 (x0 (by simpa [did] using h))).ne_ hB9 (by decide)) hfar, fun _ => by simp only [sput, gv, lb_vec]; exact ⟨p9, c9, by simpa using gp, Blk.store4v hB9 _ _ _ _, own_off gO (own_ne gO hB9 (by decide)) hfar, hlo, gz⟩, by simpa [sput, did] using x0, fun _ => by simp [did, hdep], by simpa [sput, did] using x2, by simpa [sput, did] using x3, fun _ => by simp [did, hdep], below_sets4 hT hlo _ _ _ _⟩
  intro d s W hJ hd
  obtain ⟨h0, h1, h2, h3, h4, h5, h6, h7, x0, x1, x2, x3, x4, hT⟩ := hJ
  have hd1 := hd 1 (by decide)
  have hgx := x2 hd1 (hd 3 (by decide))
  have h6' := h6 (hd 6 (by decide))
  have h7' := h7 (hd 7 (by decide))
  clear h0 h1 h2 h3 h4 h5 h6 h7 x0 x1 x2 x3 x4 hd hd1
  generalize lb (s 41) = gn at *
  generalize lb (s 43) = gp at *
  obtain ⟨pn, cn, hs9, hBn, hOn, hnl, hgl⟩ := h6'
  obtain ⟨pp, cp9, hs10, hBp, hOp, hpl, hgl2⟩ := h7'
  have hnp : pn ≠ pp := blk_ne hBn hBp (by decide)
  have hb : Below w3.heap.size w3 W := hT
  clear hT
  simp [setAll, hs9, hs10]
  clear hs9 hs10
  generalize s 40 = s40
  generalize s 41 = s41
  generalize s 42 = s42
  generalize s 43 = s43
  have hy5 : w.heap.size + 1 < w3.heap.size := Hx3.out.lt
  have HNe := Lib.hid (show gn ≠ gp ∧ pn ≠ pp ∧ w.heap.size + 1 < pn ∧ w.heap.size + 1 < pp ∧ w.heap.size + 1 < gn ∧ w.heap.size + 1 < gp from by refine ⟨hgx, hnp, by omega, by omega, by omega, by omega⟩)
  clear hy5 hnp hgx hnl hgl hpl hgl2
  generalize hW6 : W = w6 at *
  clear hW6
  have Hm4 := Lib.hid (Hm3.out.nxt hb)
  have Hx4 := Lib.hid (Hx3.out.nxt hb)
  have HB4 := Lib.hid (below_nx HB3.out hb)
  clear hb
  clear m0 m1 m2 m3 m4 x0 x1 x2 x3
  obtain ⟨m0, m1, m2, m3, m4⟩ := cells5 Hm4.out
  obtain ⟨x0, x1, x2, x3⟩ := cells4w Hx4.out
  clear Hm3 Hx3 HB3
  have Hn4 := Lib.hid hBn
  have Hp4 := Lib.hid hBp
  have Hu4 := Lib.hid hOn
  have Hv4 := Lib.hid hOp
  clear hBn hBp hOn hOp
  clear m0 m1 m2 m3 m4 x0 x1 x2 x3
  clear HAp HAl HGr HLx
  obtain ⟨m0, m1, m2, m3, m4⟩ := cells5 Hm4.out
  obtain ⟨x0, x1, x2, x3⟩ := cells4w Hx4.out
  obtain ⟨n0, n1, n2, n3, n4⟩ := cells5 Hn4.out
  obtain ⟨p0, p1, p2, p3⟩ := cells4w Hp4.out
  go_wp2_with fail
  refine (HPr.out _ gn cn gp cp9).mono ?_
  rintro e w8 ⟨rfl, hb⟩
  have Hm5 := Lib.hid (Hm4.out.nxt hb)
  have Hx5 := Lib.hid (Hx4.out.nxt hb)
  have Hn5 := Lib.hid (Hn4.out.nxt hb)
  have Hp5 := Lib.hid (Hp4.out.nxt hb)
  have Hu5 := Lib.hid (Hu4.out.nxt hb)
  have Hv5 := Lib.hid (Hv4.out.nxt hb)
  have HB5 := Lib.hid (below_nx HB4.out hb)
  clear hb
  clear m0 m1 m2 m3 m4 x0 x1 x2 x3 n0 n1 n2 n3 n4 p0 p1 p2 p3
  obtain ⟨m0, m1, m2, m3, m4⟩ := cells5 Hm5.out
  obtain ⟨x0, x1, x2, x3⟩ := cells4w Hx5.out
  obtain ⟨n0, n1, n2, n3, n4⟩ := cells5 Hn5.out
  obtain ⟨p0, p1, p2, p3⟩ := cells4w Hp5.out
  clear Hm4 Hx4 Hn4 Hp4 Hu4 Hv4 HB4
  go_wp2_with fail
  refine (HGm.out _).mono ?_
  rintro e we0 ⟨rfl, hb⟩
  have Hm6 := Lib.hid (Hm5.out.nxt hb)
  have Hx6 := Lib.hid (Hx5.out.nxt hb)
  have Hn6 := Lib.hid (Hn5.out.nxt hb)
  have Hp6 := Lib.hid (Hp5.out.nxt hb)
  have Hu6 := Lib.hid (Hu5.out.nxt hb)
  have Hv6 := Lib.hid (Hv5.out.nxt hb)
  have HB6 := Lib.hid (below_nx HB5.out hb)
  clear hb
  clear m0 m1 m2 m3 m4 x0 x1 x2 x3 n0 n1 n2 n3 n4 p0 p1 p2 p3
  obtain ⟨m0, m1, m2, m3, m4⟩ := cells5 Hm6.out
  obtain ⟨x0, x1, x2, x3⟩ := cells4w Hx6.out
  obtain ⟨n0, n1, n2, n3, n4⟩ := cells5 Hn6.out
  obtain ⟨p0, p1, p2, p3⟩ := cells4w Hp6.out
  clear Hm5 Hx5 Hn5 Hp5 Hu5 Hv5 HB5
  go_wp2_with fail
  refine (HRx.out _).mono ?_
  rintro e we1 ⟨rfl, hb⟩
  have Hm7 := Lib.hid (Hm6.out.nxt hb)
  have Hx7 := Lib.hid (Hx6.out.nxt hb)
  have Hn7 := Lib.hid (Hn6.out.nxt hb)
  have Hp7 := Lib.hid (Hp6.out.nxt hb)
  have Hu7 := Lib.hid (Hu6.out.nxt hb)
  have Hv7 := Lib.hid (Hv6.out.nxt hb)
  have HB7 := Lib.hid (below_nx HB6.out hb)
  clear hb
  clear m0 m1 m2 m3 m4 x0 x1 x2 x3 n0 n1 n2 n3 n4 p0 p1 p2 p3
  obtain ⟨m0, m1, m2, m3, m4⟩ := cells5 Hm7.out
  obtain ⟨x0, x1, x2, x3⟩ := cells4w Hx7.out
  obtain ⟨n0, n1, n2, n3, n4⟩ := cells5 Hn7.out
  obtain ⟨p0, p1, p2, p3⟩ := cells4w Hp7.out
  clear Hm6 Hx6 Hn6 Hp6 Hu6 Hv6 HB6
  rcases hbb with rfl | ⟨rfl, rfl⟩
  · clear hb2 hb2'
    go_wp2_with fail
    refine (HAllm.out _ _ _ _ _ Hu7.out.row (HAm.out.below HB7.out)).mono ?_
    rintro e wa0 ⟨rfl, hb⟩
    have Hm8 := Lib.hid (Hm7.out.nxt hb)
    have Hx8 := Lib.hid (Hx7.out.nxt hb)
    have Hn8 := Lib.hid (Hn7.out.nxt hb)
    have Hp8 := Lib.hid (Hp7.out.nxt hb)
    have Hu8 := Lib.hid (Hu7.out.nxt hb)
    have Hv8 := Lib.hid (Hv7.out.nxt hb)
    have HB8 := Lib.hid (below_nx HB7.out hb)
    clear hb
    clear m0 m1 m2 m3 m4 x0 x1 x2 x3 n0 n1 n2 n3 n4 p0 p1 p2 p3
    obtain ⟨m0, m1, m2, m3, m4⟩ := cells5 Hm8.out
    obtain ⟨x0, x1, x2, x3⟩ := cells4w Hx8.out
    obtain ⟨n0, n1, n2, n3, n4⟩ := cells5 Hn8.out
    obtain ⟨p0, p1, p2, p3⟩ := cells4w Hp8.out
    clear Hm7 Hx7 Hn7 Hp7 Hu7 Hv7 HB7
    go_wp2_with fail
    refine (HAllx.out _ _ _ _ _ Hv8.out.row (HAx.out.below HB8.out)).mono ?_
    rintro e wb0 ⟨rfl, hb⟩
    have Hm9 := Lib.hid (Hm8.out.nxt hb)
    have Hx9 := Lib.hid (Hx8.out.nxt hb)
    have Hn9 := Lib.hid (Hn8.out.nxt hb)
    have Hp9 := Lib.hid (Hp8.out.nxt hb)
    have Hu9 := Lib.hid (Hu8.out.nxt hb)
    have Hv9 := Lib.hid (Hv8.out.nxt hb)
    have HB9 := Lib.hid (below_nx HB8.out hb)
    clear hb
    clear m0 m1 m2 m3 m4 x0 x1 x2 x3 n0 n1 n2 n3 n4 p0 p1 p2 p3
    obtain ⟨m0, m1, m2, m3, m4⟩ := cells5 Hm9.out
    obtain ⟨x0, x1, x2, x3⟩ := cells4w Hx9.out
    obtain ⟨n0, n1, n2, n3, n4⟩ := cells5 Hn9.out
    obtain ⟨p0, p1, p2, p3⟩ := cells4w Hp9.out
    clear Hm8 Hx8 Hn8 Hp8 Hu8 Hv8 HB8
    go_wp2_with fail
    refine (awake9_any _).mono ?_
    rintro e wd0 ⟨rfl, hb⟩
    have Hm10 := Lib.hid (Hm9.out.nxt hb)
    have Hx10 := Lib.hid (Hx9.out.nxt hb)
    have Hn10 := Lib.hid (Hn9.out.nxt hb)
    have Hp10 := Lib.hid (Hp9.out.nxt hb)
    have Hu10 := Lib.hid (Hu9.out.nxt hb)
    have Hv10 := Lib.hid (Hv9.out.nxt hb)
    have HB10 := Lib.hid (below_nx HB9.out hb)
    clear hb
    clear m0 m1 m2 m3 m4 x0 x1 x2 x3 n0 n1 n2 n3 n4 p0 p1 p2 p3
    obtain ⟨m0, m1, m2, m3, m4⟩ := cells5 Hm10.out
    obtain ⟨x0, x1, x2, x3⟩ := cells4w Hx10.out
    obtain ⟨n0, n1, n2, n3, n4⟩ := cells5 Hn10.out
    obtain ⟨p0, p1, p2, p3⟩ := cells4w Hp10.out
    clear Hm9 Hx9 Hn9 Hp9 Hu9 Hv9 HB9
    go_wp2_with fail
    go_ret
    exact ⟨rfl, HB10.out⟩
  · skip
    go_wp2_with fail
    refine (HAllm.out _ _ _ _ _ Hu7.out.row (HAm.out.below HB7.out)).mono ?_
    rintro e wa0 ⟨rfl, hb⟩
    have Hm8 := Lib.hid (Hm7.out.nxt hb)
    have Hx8 := Lib.hid (Hx7.out.nxt hb)
    have Hn8 := Lib.hid (Hn7.out.nxt hb)
    have Hp8 := Lib.hid (Hp7.out.nxt hb)
    have Hu8 := Lib.hid (Hu7.out.nxt hb)
    have Hv8 := Lib.hid (Hv7.out.nxt hb)
    have HB8 := Lib.hid (below_nx HB7.out hb)
    clear hb
    clear m0 m1 m2 m3 m4 x0 x1 x2 x3 n0 n1 n2 n3 n4 p0 p1 p2 p3
    obtain ⟨m0, m1, m2, m3, m4⟩ := cells5 Hm8.out
    obtain ⟨x0, x1, x2, x3⟩ := cells4w Hx8.out
    obtain ⟨n0, n1, n2, n3, n4⟩ := cells5 Hn8.out
    obtain ⟨p0, p1, p2, p3⟩ := cells4w Hp8.out
    clear Hm7 Hx7 Hn7 Hp7 Hu7 Hv7 HB7
    go_wp2_with fail
    refine (HAllx.out _ _ _ _ _ Hv8.out.row (HAx.out.below HB8.out)).mono ?_
    rintro e wb0 ⟨rfl, hb⟩
    have Hm9 := Lib.hid (Hm8.out.nxt hb)
    have Hx9 := Lib.hid (Hx8.out.nxt hb)
    have Hn9 := Lib.hid (Hn8.out.nxt hb)
    have Hp9 := Lib.hid (Hp8.out.nxt hb)
    have Hu9 := Lib.hid (Hu8.out.nxt hb)
    have Hv9 := Lib.hid (Hv8.out.nxt hb)
    have HB9 := Lib.hid (below_nx HB8.out hb)
    clear hb
    clear m0 m1 m2 m3 m4 x0 x1 x2 x3 n0 n1 n2 n3 n4 p0 p1 p2 p3
    obtain ⟨m0, m1, m2, m3, m4⟩ := cells5 Hm9.out
    obtain ⟨x0, x1, x2, x3⟩ := cells4w Hx9.out
    obtain ⟨n0, n1, n2, n3, n4⟩ := cells5 Hn9.out
    obtain ⟨p0, p1, p2, p3⟩ := cells4w Hp9.out
    clear Hm8 Hx8 Hn8 Hp8 Hu8 Hv8 HB8
    go_wp2_with fail
    refine (awake9_any _).mono ?_
    rintro e wd0 ⟨rfl, hb⟩
    have Hm10 := Lib.hid (Hm9.out.nxt hb)
    have Hx10 := Lib.hid (Hx9.out.nxt hb)
    have Hn10 := Lib.hid (Hn9.out.nxt hb)
    have Hp10 := Lib.hid (Hp9.out.nxt hb)
    have Hu10 := Lib.hid (Hu9.out.nxt hb)
    have Hv10 := Lib.hid (Hv9.out.nxt hb)
    have HB10 := Lib.hid (below_nx HB9.out hb)
    clear hb
    clear m0 m1 m2 m3 m4 x0 x1 x2 x3 n0 n1 n2 n3 n4 p0 p1 p2 p3
    obtain ⟨m0, m1, m2, m3, m4⟩ := cells5 Hm10.out
    obtain ⟨x0, x1, x2, x3⟩ := cells4w Hx10.out
    obtain ⟨n0, n1, n2, n3, n4⟩ := cells5 Hn10.out
    obtain ⟨p0, p1, p2, p3⟩ := cells4w Hp10.out
    clear Hm9 Hx9 Hn9 Hp9 Hu9 Hv9 HB9
    go_wp2_with fail
    go_ret
    exact ⟨rfl, HB10.out⟩

end Go.Proofs.Ytlhdcajamempoaa
