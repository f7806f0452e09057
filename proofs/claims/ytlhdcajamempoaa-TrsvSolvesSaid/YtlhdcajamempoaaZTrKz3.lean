/-
TrsvSolves, 0 on the diagonal. Conditions: as each says.
-/
import Derived.Test.YtlhdcajamempoaaZTrM
import Derived.Test.YtlhdcajamempoaaRal
import Derived.Test.YtlhdcajamempoaaRam
import Derived.Test.YtlhdcajamempoaaZMvS
set_option linter.unusedVariables false
set_option linter.unusedSimpArgs false
set_option linter.unnecessarySimpa false
namespace Go.Proofs.Ytlhdcajamempoaa
open Go.RowKit
attribute [local go_sem ↓] Go.wp_at_zero Go.wp_at_succ

set_option maxRecDepth 100000 in
set_option maxHeartbeats 4000000 in
theorem trs_zero3 (kd : Nat) (hkd : kd = 1 ∨ kd = 2 ∨ kd = 3 ∨ kd = 4) (Am : Option Addr) (nm cm : Nat) (lm : List Nat) (Ax : Option Addr) (nx cx : Nat) (lx : List Nat) (o R L ox ix : Nat) (w : World) (hAm : Row w Am (f64s lm)) (hAx : Row w Ax (f64s lx)) (hWm : Wds lm) (hWx : Wds lx) (hlm : lm.length = nm) (hlx : lx.length = nx) (hnm : nm ≤ 1000) (hnx : nx ≤ 1000) (hG : greatB nm (R : Int) (R : Int) = false) (hLx : longB nx (R : Int) = false) (hn0 : nm = 0) (hR : R ≤ 20) (hoI : I64 o) (hLI : I64 L) (hoxI : I64 ox) (hixI : I64 ix) (hL1 : 1 ≤ L) (hRL : R ≤ L) (hmr : R = 0 ∨ R = 0 ∨ o + (R - 1) * L + (R - 1) < nm) (hix : 1 ≤ ix) (hxr : R = 0 ∨ ox + (R - 1) * ix < nx) (hz : trHZ kd (fun i k => lm.getD (o + i + k * L) 0) R = true) :
    Calls Try.prog 4 #[.int .i64 (kd : Int), mat Am nm cm o R R L, vec Ax nx cx ox R ix, .bool true] w fun e w' => e = .returned (.bool true) ∧ Below w.heap.size w w' := by
  have hRI : I64 (R : Int) := by unfold I64; omega
  have HGr := Lib.hid (fun W => great_any Am nm cm o R R L W)
  have HLx := Lib.hid (fun W => long_any Ax nx cx ox R ix W)
  rw [hG] at HGr
  rw [hLx] at HLx
  have HAp := Lib.hid (apart_c Am nm cm lm o R R L w hAm hlm (by omega))
  have HAl := Lib.hid (alone_c Ax nx cx lx ox R ix w hAx hlx (by omega))
  have HGm := Lib.hid (fun W => rgood_any Am nm cm o R R L W (by omega) hoI hRI hRI hLI)
  have HRx := Lib.hid (fun W => rright_any Ax nx cx ox R ix W (by omega) hoxI hRI hixI)
  have HAllm := Lib.hid (all_c lm nm hWm hlm (by omega))
  have HAllx := Lib.hid (all_c lx nx hWx hlx (by omega))
  rw [vec_right hix hxr] at HRx
  rw [mat_right hL1 hRL hmr] at HGm
  have HPr := Lib.hid (fun W (g cg gx cx9 : Nat) (h1 : gx ≠ g) (hO : Own W g lm) (hX : Own W gx lx) => show Calls Try.prog 17 #[.int .i64 (kd : Int), mat (some ⟨g, 0, none⟩) nm cg o R R L, vec (some ⟨gx, 0, none⟩) nx cx9 ox R ix] W fun e w' => e = .returned (.int .i64 4) ∧ Below W.heap.size W w' from
    trsv_zero kd hkd (some ⟨g, 0, none⟩) nm cg o R L (some ⟨gx, 0, none⟩) nx cx9 ox ix (fun i k => lm.getD (o + i + k * L) 0) W (by omega) hLI (by omega) hL1 hRL hmr hoI (by omega) hoxI hixI hix hxr (fun W' hb => trmeets_far gx cx9 nx lx ox R ix g cg nm lm o R R L W' (hX.nxt hb) (hO.nxt hb) h1 hlx hlm (by omega) (by omega) hoxI hRI hixI hoI hRI hRI hLI) (MxC.of_row hO.row hlm hmr) hz)
  obtain ⟨N, hN⟩ : ∃ N, R * R = N := ⟨_, rfl⟩
  have hNb : N ≤ 400 := by
    have h1 : R * R ≤ 20 * 20 := Nat.mul_le_mul hR hR
    omega
  have HOf := Lib.hid (fun W (hb : Below w.heap.size w W) => show Calls Try.prog 23 #[mat Am nm cm o R R L] W fun e w' => ∃ g T, e = .returned (tbl R R g N N) ∧ Tab lm o R R L N T ∧ Row w' (some ⟨g, 0, none⟩) (f64s T) ∧ Below W.heap.size W w' from by
    refine (rof_any Am nm cm lm o R R L N W (hAm.below hb) hlm (by omega) hN (by omega) (by omega) (by omega) hmr).mono ?_
    rintro e w' ⟨g', T, e1, e2, e3, _, e4⟩
    exact ⟨g', T, e1, e2, e3, e4⟩)
  have HLs := Lib.hid (fun W (hb : Below w.heap.size w W) => show Calls Try.prog 24 #[vec Ax nx cx ox R ix] W fun e w' => ∃ B d, e = .returned (.slice B R d) ∧ Row w' B (f64s (lst lx ox ix R)) ∧ Below W.heap.size W w' from
    rlist_any Ax nx cx lx ox R ix W (hAx.below hb) hlx (by omega) hxr (by omega))
  have hag : ∀ T, Tab lm o R R L N T → ∀ p, p < R → ∀ q, q < R → T.getD (p * R + q) 0 = (fun i k => lm.getD (o + i + k * L) 0) p q := fun T hT p hp q hq => tab_get hT hN hp hq
  have HRs := Lib.hid (fun (g cT : Nat) (T : List Nat) (A : Option Addr) (d : Nat) W (hT : Tab lm o R R L N T) (h : Row W (some ⟨g, 0, none⟩) (f64s T)) (hA : Row W A (f64s (lst lx ox ix R))) => show Calls Try.prog 22 #[.int .i64 (kd : Int), tbl R R g N cT, .slice A R d] W fun e w' => ∃ v, e = .returned (.tuple #[v, .bool false]) ∧ SlZ w' v R ∧ Below W.heap.size W w' from
    (rtzero_any kd hkd R g N cT T A d (lst lx ox ix R) W h (by rw [hT.1, hN]) hN (by omega) (fun h0 => row_ltg h (by rw [hT.1, hN]) h0) (by omega) (tab_wds2 hT hN hWm) hA (lst_length _ _ _ _) (wds_lstg hWx _ _ _) (by rw [trHZ_agree (hag T hT)]; exact hz)).mono fun e w' ⟨g, c, e1, e2⟩ => ⟨_, e1, ⟨_, c, rfl⟩, e2⟩)
  obtain ⟨X1, hX1⟩ : ∃ z, lst lx ox ix R = z := ⟨_, rfl⟩
  rw [hX1] at HLs HRs
  have HMs := Lib.hid (fun W => mspan_any Am nm cm o R R L W (by omega) (by omega) (by omega) hmr)
  have HVx := Lib.hid (fun W => vspan_any Ax nx cx ox R ix W (by omega) (by omega) hxr)
  obtain ⟨x1, hx1⟩ : ∃ z, vsA ox R = z := ⟨_, rfl⟩
  obtain ⟨x2, hx2⟩ : ∃ z, vsB ox R ix = z := ⟨_, rfl⟩
  obtain ⟨m1, hm1⟩ : ∃ z, msA o R R = z := ⟨_, rfl⟩
  obtain ⟨m2, hm2⟩ : ∃ z, msB o R R L = z := ⟨_, rfl⟩
  rw [hx1, hx2] at HVx
  rw [hm1, hm2] at HMs
  have e1 : decide ((kd : Int) < 1) = false := decide_eq_false (by omega)
  have e2 : decide ((4 : Int) < (kd : Int)) = false := decide_eq_false (by omega)
  have tR : ((R : Int) == (R : Int)) = true := by simp
  have tR' : ((R : Int) != (R : Int)) = false := by simp
  have HAm := Lib.hid hAm
  have HAx := Lib.hid hAx
  have d1 : decide ((0 : Int) < (nm : Int)) = false := by rw [hn0]; rfl
  have d2 : decide (0 < nm) = false := by rw [hn0]; rfl
  clear hAm hAx hWm hWx hlm hlx hnm hnx hG hLx hn0 hR hoI hLI hoxI hixI hL1 hRL hmr hix hxr hRI hN hNb hag hz hX1 hx1 hx2 hm1 hm2 hkd
  unfold mat vec tbl at *
  go_enter Try.func4, Try.ntmps4
  have Hm0 := Lib.hid ((Blk.new w 26 #[.slice Am nm cm, .int .i64 (o : Int), .int .i64 (R : Int), .int .i64 (R : Int), .int .i64 (L : Int)]).alloc (.cells #[.slice Ax nx cx, .int .i64 (ox : Int), .int .i64 (R : Int), .int .i64 (ix : Int)] 32))
  have Hx0 := Lib.hid (Blk.new_ (w.alloc (.cells #[.slice Am nm cm, .int .i64 (o : Int), .int .i64 (R : Int), .int .i64 (R : Int), .int .i64 (L : Int)] 26)) 32 #[.slice Ax nx cx, .int .i64 (ox : Int), .int .i64 (R : Int), .int .i64 (ix : Int)] (w.heap.size + 1) (by simp))
  have HB0 := Lib.hid (((Below.refl w.heap.size w).alloc (Nat.le_refl _) (.cells #[.slice Am nm cm, .int .i64 (o : Int), .int .i64 (R : Int), .int .i64 (R : Int), .int .i64 (L : Int)] 26)).alloc (by simp) (.cells #[.slice Ax nx cx, .int .i64 (ox : Int), .int .i64 (R : Int), .int .i64 (ix : Int)] 32))
  obtain ⟨m0, m1, m2, m3, m4⟩ := cells5 Hm0.out
  obtain ⟨x0, x1, x2, x3⟩ := cells4w Hx0.out
  go_wp2_with fail
  refine (awake9_any _).mono ?_
  rintro e w1 ⟨rfl, hb⟩
  have Hm1 := Lib.hid (Hm0.out.nxt hb)
  have Hx1 := Lib.hid (Hx0.out.nxt hb)
  have HB1 := Lib.hid (below_nx HB0.out hb)
  clear hb
  clear m0 m1 m2 m3 m4 x0 x1 x2 x3
  obtain ⟨m0, m1, m2, m3, m4⟩ := cells5 Hm1.out
  obtain ⟨x0, x1, x2, x3⟩ := cells4w Hx1.out
  clear Hm0 Hx0 HB0
  go_wp2_with fail
  refine (HGr.out _).mono ?_
  rintro e w2 ⟨rfl, hb⟩
  have Hm2 := Lib.hid (Hm1.out.nxt hb)
  have Hx2 := Lib.hid (Hx1.out.nxt hb)
  have HB2 := Lib.hid (below_nx HB1.out hb)
  clear hb
  clear m0 m1 m2 m3 m4 x0 x1 x2 x3
  obtain ⟨m0, m1, m2, m3, m4⟩ := cells5 Hm2.out
  obtain ⟨x0, x1, x2, x3⟩ := cells4w Hx2.out
  clear Hm1 Hx1 HB1
  go_wp2_with fail
  refine (HLx.out _).mono ?_
  rintro e w3 ⟨rfl, hb⟩
  have Hm3 := Lib.hid (Hm2.out.nxt hb)
  have Hx3 := Lib.hid (Hx2.out.nxt hb)
  have HB3 := Lib.hid (below_nx HB2.out hb)
  clear hb
  clear m0 m1 m2 m3 m4 x0 x1 x2 x3
  obtain ⟨m0, m1, m2, m3, m4⟩ := cells5 Hm3.out
  obtain ⟨x0, x1, x2, x3⟩ := cells4w Hx3.out
  clear Hm2 Hx2 HB2
  go_wp2_with fail
  refine wp_region_inv [40, 41, 42, 43, 9, 10] (fun d s W => (d 0 = true → s 40 = .agg #[.slice Am nm cm, .int .i64 (o : Int), .int .i64 (R : Int), .int .i64 (R : Int), .int .i64 (L : Int)]) ∧ (d 1 = true → OwM W (s 41) w3.heap.size lm nm (o : Int) (R : Int) (R : Int) (L : Int)) ∧ (d 2 = true → s 42 = .agg #[.slice Ax nx cx, .int .i64 (ox : Int), .int .i64 (R : Int), .int .i64 (ix : Int)]) ∧ (d 3 = true → OwV W (s 43) w3.heap.size lx nx (ox : Int) (R : Int) (ix : Int)) ∧ (d 4 = true → NbM W (s 9) w3.heap.size) ∧ (d 5 = true → NbV W (s 10) w3.heap.size) ∧ (d 6 = true → PqM W (s 9) (lb (s 41)) w3.heap.size lm nm (o : Int) (R : Int) (R : Int) (L : Int)) ∧ (d 7 = true → PqV W (s 10) (lb (s 43)) w3.heap.size lx nx (ox : Int) (R : Int) (ix : Int)) ∧ (d 6 = true → d 4 = true) ∧ (d 7 = true → d 5 = true) ∧ (d 1 = true → d 3 = true → lb (s 41) ≠ lb (s 43)) ∧ (d 6 = true → d 1 = true) ∧ (d 7 = true → d 3 = true) ∧ Below w3.heap.size w3 W)
    rfl (by kernel_rfl) ?_ ?_ ?_
  · exact ⟨by simp, by simp, by simp, by simp, by simp, by simp, by simp, by simp, by simp, by simp, by simp, by simp, by simp, (Below.refl _ _).drew⟩
  · refine ⟨?_, ?_, ?_, ?_, ?_, ?_, ?_, ?_, trivial⟩
    all_goals
      intro d s W hJ hfr hd hdep
      simp only [List.mem_cons, forall_eq_or_imp, List.not_mem_nil, false_implies, implies_true, and_true, Region.binds] at hdep
      have f5 := hfr 5 (by decide)
      have f6 := hfr 6 (by decide)
      simp at f5 f6 hdep
      obtain ⟨h0, h1, h2, h3, h4, h5, h6, h7, x0, x1, x2, x3, x4, hT⟩ := hJ
    · as_aux_lemma =>
        unfold OpSteps
        obtain ⟨p0, p1, p2, p3, p4⟩ := cells5 (Hm3.out.below hT Hm3.out.lt)
        simp [go_sem, evS, f5, p0, p1, p2, p3, p4]
        exact ⟨fun _ => by simp [sput], fun h => by simpa [sput] using h1 (by simpa [did] using h), kpw h2, fun h => by simpa [sput] using h3 (by simpa [did] using h), fun h => by simpa [sput] using h4 (by simpa [did] using h), fun h => by simpa [sput] using h5 (by simpa [did] using h), fun h => by simpa [sput] using h6 (by simpa [did] using h), fun h => by simpa [sput] using h7 (by simpa [did] using h), by simpa [sput, did] using x0, by simpa [sput, did] using x1, by simpa [sput, did] using x2, by simpa [sput, did] using x3, by simpa [sput, did] using x4, hT⟩
    · as_aux_lemma =>
        have g0 := h0 (by simp [hdep])
        unfold OpSteps
        simp [go_sem, evS, g0]
        refine (HAp.out W (below_nx HB3.out hT)).mono ?_
        rintro e W' ⟨g9, c9, rfl, ho, hg, hb⟩
        refine ⟨_, rfl, ?_⟩
        exact ⟨kpw h0, fun _ => ⟨g9, c9, by simp [sput], ho, Nat.le_trans hT.size hg⟩, kpw h2, fun h => by simpa [sput] using (h3 (by simpa [did] using h)).below hb, fun h => by simpa [sput] using (h4 (by simpa [did] using h)).below hb, fun h => by simpa [sput] using (h5 (by simpa [did] using h)).below hb, fun h => by have := x3 (by simpa [did] using h); simp [hd] at this, fun h => by simpa [sput] using (h7 (by simpa [did] using h)).below hb, by simpa [sput, did] using x0, by simpa [sput, did] using x1, fun _ e3 => by have hq := (h3 (by simpa [did] using e3)).lb_lt; simp [sput, lb_mat]; omega, fun _ => by simp [did], by simpa [sput, did] using x4, below_nx hT hb⟩
    · as_aux_lemma =>
        unfold OpSteps
        obtain ⟨p0, p1, p2, p3⟩ := cells4w (Hx3.out.below hT Hx3.out.lt)
        simp [go_sem, evS, f6, p0, p1, p2, p3]
        exact ⟨kpw h0, fun h => by simpa [sput] using h1 (by simpa [did] using h), fun _ => by simp [sput], fun h => by simpa [sput] using h3 (by simpa [did] using h), fun h => by simpa [sput] using h4 (by simpa [did] using h), fun h => by simpa [sput] using h5 (by simpa [did] using h), fun h => by simpa [sput] using h6 (by simpa [did] using h), fun h => by simpa [sput] using h7 (by simpa [did] using h), by simpa [sput, did] using x0, by simpa [sput, did] using x1, by simpa [sput, did] using x2, by simpa [sput, did] using x3, by simpa [sput, did] using x4, hT⟩
    · as_aux_lemma =>
        have g2 := h2 (by simp [hdep])
        unfold OpSteps
        simp [go_sem, evS, g2]
        refine (HAl.out W (below_nx HB3.out hT)).mono ?_
        rintro e W' ⟨g9, c9, rfl, ho, hg, hb⟩
        refine ⟨_, rfl, ?_⟩
        exact ⟨kpw h0, fun h => by simpa [sput] using (h1 (by simpa [did] using h)).below hb, kpw h2, fun _ => ⟨g9, c9, by simp [sput], ho, Nat.le_trans hT.size hg⟩, fun h => by simpa [sput] using (h4 (by simpa [did] using h)).below hb, fun h => by simpa [sput] using (h5 (by simpa [did] using h)).below hb, fun h => by simpa [sput] using (h6 (by simpa [did] using h)).below hb, fun h => by have := x4 (by simpa [did] using h); simp [hd] at this, by simpa [sput, did] using x0, by simpa [sput, did] using x1, fun e1 _ => by have hq := (h1 (by simpa [did] using e1)).lb_lt; simp [sput, lb_vec]; omega, by simpa [sput, did] using x3, fun _ => by simp [did], below_nx hT hb⟩
    · as_aux_lemma =>
        unfold OpSteps
        simp [go_sem, evS]
        exact ⟨kpw h0, fun h => by simpa [sput] using (h1 (by simpa [did] using h)).below below_one, kpw h2, fun h => by simpa [sput] using (h3 (by simpa [did] using h)).below below_one, fun _ => ⟨W.heap.size, _, _, _, _, _, by simp [sput], Blk.new W _ _, hT.size⟩, fun h => by simpa [sput] using (h5 (by simpa [did] using h)).below below_one, fun h => by have := x0 (by simpa [did] using h); simp [hd] at this, fun h => by simpa [sput] using (h7 (by simpa [did] using h)).below below_one, fun _ => by simp [did], by simpa [sput, did] using x1, by simpa [sput, did] using x2, by simpa [sput, did] using x3, by simpa [sput, did] using x4, below_al hT⟩
    · as_aux_lemma =>
        unfold OpSteps
        simp [go_sem, evS]
        exact ⟨kpw h0, fun h => by simpa [sput] using (h1 (by simpa [did] using h)).below below_one, kpw h2, fun h => by simpa [sput] using (h3 (by simpa [did] using h)).below below_one, fun h => by simpa [sput] using (h4 (by simpa [did] using h)).below below_one, fun _ => ⟨W.heap.size, _, _, _, _, by simp [sput], Blk.new W _ _, hT.size⟩, fun h => by simpa [sput] using (h6 (by simpa [did] using h)).below below_one, fun h => by have := x1 (by simpa [did] using h); simp [hd] at this, by simpa [sput, did] using x0, fun _ => by simp [did], by simpa [sput, did] using x2, by simpa [sput, did] using x3, by simpa [sput, did] using x4, below_al hT⟩
    · as_aux_lemma =>
        have g4 := h4 (by simp [hdep])
        have g1 := h1 (by simp [hdep])
        unfold OpSteps
        obtain ⟨p9, z0, z1, z2, z3, z4, gp, hB9, hlo⟩ := g4
        obtain ⟨g9, c9, gv, gO, gz⟩ := g1
        obtain ⟨fr0, fr1, fr2, fr3, fr4⟩ := frozen5w hB9
        obtain ⟨k0, k1, k2, k3, k4⟩ := cells5 hB9
        have hfar : ∀ k9, k9 ≠ p9 → _ := fun k9 (hk9 : k9 ≠ p9) => heap_sets5 (w := W) hk9 (.slice (some ⟨g9, 0, none⟩) nm c9) (.int .i64 (o : Int)) (.int .i64 (R : Int)) (.int .i64 (R : Int)) (.int .i64 (L : Int))
        simp [go_sem, evS, gp, gv, fr0, fr1, fr2, fr3, fr4, k0, k1, k2, k3, k4]
        exact ⟨kpw h0, fun h => by simpa [sput] using (h1 (by simpa [did] using h)).far hB9 (by decide) hfar, kpw h2, fun h => by simpa [sput] using (h3 (by simpa [did] using h)).far hB9 (by decide) hfar, fun h => ⟨p9, _, _, _, _, _, by simpa [sput] using gp, Blk.store5 hB9 _ _ _ _ _, hlo⟩, fun h => by simpa [sput] using (h5 (by simpa [did] using h)).far ((h5 (by simpa [did] using h)).ne_ hB9 (by decide)) hfar, fun _ => by simp only [sput, gv, lb_mat]; exact ⟨p9, c9, by simpa using gp, Blk.store5 hB9 _ _ _ _ _, own_off gO (own_ne gO hB9 (by decide)) hfar, hlo, gz⟩, fun h => by simpa [sput] using (h7 (by simpa [did] using h)).far hB9 (by decide) ((h5 (x1 (by simpa [did] using h))).ne_ hB9 (by decide)) hfar, fun _ => by simp [did, hdep], by simpa [sput, did] using x1, by simpa [sput, did] using x2, fun _ => by simp [did, hdep], by simpa [sput, did] using x4, below_sets5 hT hlo _ _ _ _ _⟩
    · as_aux_lemma =>
        have g5 := h5 (by simp [hdep])
        have g3 := h3 (by simp [hdep])
        unfold OpSteps
        obtain ⟨p9, z0, z1, z2, z3, gp, hB9, hlo⟩ := g5
        obtain ⟨g9, c9, gv, gO, gz⟩ := g3
        obtain ⟨fr0, fr1, fr2, fr3⟩ := frozen4w hB9
        obtain ⟨k0, k1, k2, k3⟩ := cells4w hB9
        have hfar : ∀ k9, k9 ≠ p9 → _ := fun k9 (hk9 : k9 ≠ p9) => heap_sets4 (w := W) hk9 (.slice (some ⟨g9, 0, none⟩) nx c9) (.int .i64 (ox : Int)) (.int .i64 (R : Int)) (.int .i64 (ix : Int))
        simp [go_sem, evS, gp, gv, fr0, fr1, fr2, fr3, k0, k1, k2, k3]
        exact ⟨kpw h0, fun h => by simpa [sput] using (h1 (by simpa [did] using h)).far hB9 (by decide) hfar, kpw h2, fun h => by simpa [sput] using (h3 (by simpa [did] using h)).far hB9 (by decide) hfar, fun h => by simpa [sput] using (h4 (by simpa [did] using h)).far ((h4 (by simpa [did] using h)).ne_ hB9 (by decide)) hfar, fun h => ⟨p9, _, _, _, _, by simpa [sput] using gp, Blk.store4v hB9 _ _ _ _, hlo⟩, fun h => by simpa [sput] using (h6 (by simpa [did] using h)).far hB9 (by decide) ((h4 (x0 (by simpa [did] using h))).ne_ hB9 (by decide)) hfar, fun _ => by simp only [sput, gv, lb_vec]; exact ⟨p9, c9, by simpa using gp, Blk.store4v hB9 _ _ _ _, own_off gO (own_ne gO hB9 (by decide)) hfar, hlo, gz⟩, by simpa [sput, did] using x0, fun _ => by simp [did, hdep], by simpa [sput, did] using x2, by simpa [sput, did] using x3, fun _ => by simp [did, hdep], below_sets4 hT hlo _ _ _ _⟩
  intro d s W hJ hd
  obtain ⟨h0, h1, h2, h3, h4, h5, h6, h7, x0, x1, x2, x3, x4, hT⟩ := hJ
  have hd1 := hd 1 (by decide)
  have hgx := x2 hd1 (hd 3 (by decide))
  have h6' := h6 (hd 6 (by decide))
  have h7' := h7 (hd 7 (by decide))
  clear h0 h1 h2 h3 h4 h5 h6 h7 x0 x1 x2 x3 x4 hd hd1
  generalize lb (s 41) = gn at *
  generalize lb (s 43) = gp at *
  obtain ⟨pn, cn, hs9, hBn, hOn, hnl, hgl⟩ := h6'
  obtain ⟨pp, cp9, hs10, hBp, hOp, hpl, hgl2⟩ := h7'
  have hnp : pn ≠ pp := blk_ne hBn hBp (by decide)
  have hb : Below w3.heap.size w3 W := hT
  clear hT
  simp [setAll, hs9, hs10]
  clear hs9 hs10
  generalize s 40 = s40
  generalize s 41 = s41
  generalize s 42 = s42
  generalize s 43 = s43
  have hy5 : w.heap.size + 1 < w3.heap.size := Hx3.out.lt
  have HNe := Lib.hid (show gn ≠ gp ∧ pn ≠ pp ∧ w.heap.size + 1 < pn ∧ w.heap.size + 1 < pp ∧ w.heap.size + 1 < gn ∧ w.heap.size + 1 < gp from by refine ⟨hgx, hnp, by omega, by omega, by omega, by omega⟩)
  clear hy5 hnp hgx hnl hgl hpl hgl2
  generalize hW6 : W = w6 at *
  clear hW6
  have Hm4 := Lib.hid (Hm3.out.nxt hb)
  have Hx4 := Lib.hid (Hx3.out.nxt hb)
  have HB4 := Lib.hid (below_nx HB3.out hb)
  clear hb
  clear m0 m1 m2 m3 m4 x0 x1 x2 x3
  obtain ⟨m0, m1, m2, m3, m4⟩ := cells5 Hm4.out
  obtain ⟨x0, x1, x2, x3⟩ := cells4w Hx4.out
  clear Hm3 Hx3 HB3
  have Hn4 := Lib.hid hBn
  have Hp4 := Lib.hid hBp
  have Hu4 := Lib.hid hOn
  have Hv4 := Lib.hid hOp
  clear hBn hBp hOn hOp
  clear m0 m1 m2 m3 m4 x0 x1 x2 x3
  clear HAp HAl HGr HLx
  obtain ⟨m0, m1, m2, m3, m4⟩ := cells5 Hm4.out
  obtain ⟨x0, x1, x2, x3⟩ := cells4w Hx4.out
  obtain ⟨n0, n1, n2, n3, n4⟩ := cells5 Hn4.out
  obtain ⟨p0, p1, p2, p3⟩ := cells4w Hp4.out
  go_wp2_with fail
  refine (HPr.out _ gn cn gp cp9 HNe.out.1.symm Hu4.out Hv4.out).mono ?_
  rintro e w8 ⟨rfl, hb⟩
  have Hm5 := Lib.hid (Hm4.out.nxt hb)
  have Hx5 := Lib.hid (Hx4.out.nxt hb)
  have Hn5 := Lib.hid (Hn4.out.nxt hb)
  have Hp5 := Lib.hid (Hp4.out.nxt hb)
  have Hu5 := Lib.hid (Hu4.out.nxt hb)
  have Hv5 := Lib.hid (Hv4.out.nxt hb)
  have HB5 := Lib.hid (below_nx HB4.out hb)
  clear hb
  clear m0 m1 m2 m3 m4 x0 x1 x2 x3 n0 n1 n2 n3 n4 p0 p1 p2 p3
  obtain ⟨m0, m1, m2, m3, m4⟩ := cells5 Hm5.out
  obtain ⟨x0, x1, x2, x3⟩ := cells4w Hx5.out
  obtain ⟨n0, n1, n2, n3, n4⟩ := cells5 Hn5.out
  obtain ⟨p0, p1, p2, p3⟩ := cells4w Hp5.out
  clear Hm4 Hx4 Hn4 Hp4 Hu4 Hv4 HB4
  go_wp2_with fail
  refine (HGm.out _).mono ?_
  rintro e we0 ⟨rfl, hb⟩
  have Hm6 := Lib.hid (Hm5.out.nxt hb)
  have Hx6 := Lib.hid (Hx5.out.nxt hb)
  have Hn6 := Lib.hid (Hn5.out.nxt hb)
  have Hp6 := Lib.hid (Hp5.out.nxt hb)
  have Hu6 := Lib.hid (Hu5.out.nxt hb)
  have Hv6 := Lib.hid (Hv5.out.nxt hb)
  have HB6 := Lib.hid (below_nx HB5.out hb)
  clear hb
  clear m0 m1 m2 m3 m4 x0 x1 x2 x3 n0 n1 n2 n3 n4 p0 p1 p2 p3
  obtain ⟨m0, m1, m2, m3, m4⟩ := cells5 Hm6.out
  obtain ⟨x0, x1, x2, x3⟩ := cells4w Hx6.out
  obtain ⟨n0, n1, n2, n3, n4⟩ := cells5 Hn6.out
  obtain ⟨p0, p1, p2, p3⟩ := cells4w Hp6.out
  clear Hm5 Hx5 Hn5 Hp5 Hu5 Hv5 HB5
  go_wp2_with fail
  refine (HRx.out _).mono ?_
  rintro e we1 ⟨rfl, hb⟩
  have Hm7 := Lib.hid (Hm6.out.nxt hb)
  have Hx7 := Lib.hid (Hx6.out.nxt hb)
  have Hn7 := Lib.hid (Hn6.out.nxt hb)
  have Hp7 := Lib.hid (Hp6.out.nxt hb)
  have Hu7 := Lib.hid (Hu6.out.nxt hb)
  have Hv7 := Lib.hid (Hv6.out.nxt hb)
  have HB7 := Lib.hid (below_nx HB6.out hb)
  clear hb
  clear m0 m1 m2 m3 m4 x0 x1 x2 x3 n0 n1 n2 n3 n4 p0 p1 p2 p3
  obtain ⟨m0, m1, m2, m3, m4⟩ := cells5 Hm7.out
  obtain ⟨x0, x1, x2, x3⟩ := cells4w Hx7.out
  obtain ⟨n0, n1, n2, n3, n4⟩ := cells5 Hn7.out
  obtain ⟨p0, p1, p2, p3⟩ := cells4w Hp7.out
  clear Hm6 Hx6 Hn6 Hp6 Hu6 Hv6 HB6
  go_wp2_with fail
  refine (HVx.out _).mono ?_
  rintro e we2 ⟨rfl, hb⟩
  have Hm8 := Lib.hid (Hm7.out.nxt hb)
  have Hx8 := Lib.hid (Hx7.out.nxt hb)
  have Hn8 := Lib.hid (Hn7.out.nxt hb)
  have Hp8 := Lib.hid (Hp7.out.nxt hb)
  have Hu8 := Lib.hid (Hu7.out.nxt hb)
  have Hv8 := Lib.hid (Hv7.out.nxt hb)
  have HB8 := Lib.hid (below_nx HB7.out hb)
  clear hb
  clear m0 m1 m2 m3 m4 x0 x1 x2 x3 n0 n1 n2 n3 n4 p0 p1 p2 p3
  obtain ⟨m0, m1, m2, m3, m4⟩ := cells5 Hm8.out
  obtain ⟨x0, x1, x2, x3⟩ := cells4w Hx8.out
  obtain ⟨n0, n1, n2, n3, n4⟩ := cells5 Hn8.out
  obtain ⟨p0, p1, p2, p3⟩ := cells4w Hp8.out
  clear Hm7 Hx7 Hn7 Hp7 Hu7 Hv7 HB7
  go_wp2_with fail
  refine (HMs.out _).mono ?_
  rintro e we3 ⟨rfl, hb⟩
  have Hm9 := Lib.hid (Hm8.out.nxt hb)
  have Hx9 := Lib.hid (Hx8.out.nxt hb)
  have Hn9 := Lib.hid (Hn8.out.nxt hb)
  have Hp9 := Lib.hid (Hp8.out.nxt hb)
  have Hu9 := Lib.hid (Hu8.out.nxt hb)
  have Hv9 := Lib.hid (Hv8.out.nxt hb)
  have HB9 := Lib.hid (below_nx HB8.out hb)
  clear hb
  clear m0 m1 m2 m3 m4 x0 x1 x2 x3 n0 n1 n2 n3 n4 p0 p1 p2 p3
  obtain ⟨m0, m1, m2, m3, m4⟩ := cells5 Hm9.out
  obtain ⟨x0, x1, x2, x3⟩ := cells4w Hx9.out
  obtain ⟨n0, n1, n2, n3, n4⟩ := cells5 Hn9.out
  obtain ⟨p0, p1, p2, p3⟩ := cells4w Hp9.out
  clear Hm8 Hx8 Hn8 Hp8 Hu8 Hv8 HB8
  go_wp2_with fail
  refine wp_region_inv [91, 92, 93, 94, 95, 96, 90, 97, 98, 18, 19] (fun d s W => (d 0 = true → s 91 = .int .i64 (kd : Int)) ∧ (d 1 = true → s 92 = .agg #[.slice Am nm cm, .int .i64 (o : Int), .int .i64 (R : Int), .int .i64 (R : Int), .int .i64 (L : Int)]) ∧ (d 2 = true → TbG W (s 93) (Tab lm o R R L N) R R N) ∧ (d 3 = true → s 94 = .agg #[.slice Ax nx cx, .int .i64 (ox : Int), .int .i64 (R : Int), .int .i64 (ix : Int)]) ∧ (d 4 = true → SlG W (s 95) (fun z => z = X1) R) ∧ (d 5 = true → TpZ W (s 96) R false) ∧ (d 6 = true → TpZ W (s 90) R false) ∧ (d 7 = true → SlZ W (s 97) R) ∧ (d 8 = true → s 98 = .bool false) ∧ (d 9 = true → SlZ W (s 18) R) ∧ (d 10 = true → s 19 = .bool false) ∧ Below we3.heap.size we3 W)
    rfl (by kernel_rfl) ?_ ?_ ?_
  · exact ⟨by simp, by simp, by simp, by simp, by simp, by simp, by simp, by simp, by simp, by simp, by simp, (Below.refl _ _).drew⟩
  · refine ⟨?_, ?_, ?_, ?_, ?_, ?_, ?_, ?_, ?_, ?_, ?_, trivial⟩
    all_goals
      intro d s W hJ hfr hd hdep
      simp only [List.mem_cons, forall_eq_or_imp, List.not_mem_nil, false_implies, implies_true, and_true, Region.binds] at hdep
      have f0 := hfr 0 (by decide)
      have f5 := hfr 5 (by decide)
      have f6 := hfr 6 (by decide)
      simp at f0 f5 f6 hdep
      obtain ⟨h0, h1, h2, h3, h4, h5, h6, h7, h8, h9, h10, hT⟩ := hJ
    · as_aux_lemma =>
        unfold OpSteps
        simp [go_sem, evS, f0]
        exact ⟨fun _ => by simp [sput], kpw h1, fun h => by simpa [sput] using h2 (by simpa [did] using h), kpw h3, fun h => by simpa [sput] using h4 (by simpa [did] using h), fun h => by simpa [sput] using h5 (by simpa [did] using h), fun h => by simpa [sput] using h6 (by simpa [did] using h), fun h => by simpa [sput] using h7 (by simpa [did] using h), kpw h8, fun h => by simpa [sput] using h9 (by simpa [did] using h), kpw h10, hT⟩
    · as_aux_lemma =>
        unfold OpSteps
        obtain ⟨p0, p1, p2, p3, p4⟩ := cells5 (Hm9.out.below hT Hm9.out.lt)
        simp [go_sem, evS, f5, p0, p1, p2, p3, p4]
        exact ⟨kpw h0, fun _ => by simp [sput], fun h => by simpa [sput] using h2 (by simpa [did] using h), kpw h3, fun h => by simpa [sput] using h4 (by simpa [did] using h), fun h => by simpa [sput] using h5 (by simpa [did] using h), fun h => by simpa [sput] using h6 (by simpa [did] using h), fun h => by simpa [sput] using h7 (by simpa [did] using h), kpw h8, fun h => by simpa [sput] using h9 (by simpa [did] using h), kpw h10, hT⟩
    · as_aux_lemma =>
        have g1 := h1 (by simp [hdep])
        unfold OpSteps
        simp [go_sem, evS, g1]
        refine (HOf.out W (below_nx HB9.out hT)).mono ?_
        rintro e W' ⟨q9, T9, rfl, hS9, hr9, hb⟩
        refine ⟨_, rfl, ?_⟩
        exact ⟨kpw h0, kpw h1, fun _ => ⟨q9, N, T9, by simp [sput], hS9, hr9⟩, kpw h3, fun h => by simpa [sput] using (h4 (by simpa [did] using h)).below hb, fun h => by simpa [sput] using (h5 (by simpa [did] using h)).below hb, fun h => by simpa [sput] using (h6 (by simpa [did] using h)).below hb, fun h => by simpa [sput] using (h7 (by simpa [did] using h)).below hb, kpw h8, fun h => by simpa [sput] using (h9 (by simpa [did] using h)).below hb, kpw h10, below_nx hT hb⟩
    · as_aux_lemma =>
        unfold OpSteps
        obtain ⟨p0, p1, p2, p3⟩ := cells4w (Hx9.out.below hT Hx9.out.lt)
        simp [go_sem, evS, f6, p0, p1, p2, p3]
        exact ⟨kpw h0, kpw h1, fun h => by simpa [sput] using h2 (by simpa [did] using h), fun _ => by simp [sput], fun h => by simpa [sput] using h4 (by simpa [did] using h), fun h => by simpa [sput] using h5 (by simpa [did] using h), fun h => by simpa [sput] using h6 (by simpa [did] using h), fun h => by simpa [sput] using h7 (by simpa [did] using h), kpw h8, fun h => by simpa [sput] using h9 (by simpa [did] using h), kpw h10, hT⟩
    · as_aux_lemma =>
        have g3 := h3 (by simp [hdep])
        unfold OpSteps
        simp [go_sem, evS, g3]
        refine (HLs.out W (below_nx HB9.out hT)).mono ?_
        rintro e W' ⟨B9, d9, rfl, hr9, hb⟩
        refine ⟨_, rfl, ?_⟩
        exact ⟨kpw h0, kpw h1, fun h => by simpa [sput] using (h2 (by simpa [did] using h)).below hb, kpw h3, fun _ => ⟨B9, d9, X1, by simp [sput], rfl, hr9⟩, fun h => by simpa [sput] using (h5 (by simpa [did] using h)).below hb, fun h => by simpa [sput] using (h6 (by simpa [did] using h)).below hb, fun h => by simpa [sput] using (h7 (by simpa [did] using h)).below hb, kpw h8, fun h => by simpa [sput] using (h9 (by simpa [did] using h)).below hb, kpw h10, below_nx hT hb⟩
    · as_aux_lemma =>
        have g0 := h0 (by simp [hdep])
        have g2 := h2 (by simp [hdep])
        have g4 := h4 (by simp [hdep])
        unfold OpSteps
        obtain ⟨A8, a8, X8, gv4, rfl, gR4⟩ := g4
        obtain ⟨q8, c8, T8, gv2, gS2, gR2⟩ := g2
        simp [go_sem, evS, g0, gv2, gv4]
        refine (HRs.out q8 c8 T8 A8 a8 W gS2 gR2 gR4).mono ?_
        rintro e W' ⟨v9, rfl, hP9, hb⟩
        refine ⟨_, rfl, ?_⟩
        exact ⟨kpw h0, kpw h1, fun h => by simpa [sput] using (h2 (by simpa [did] using h)).below hb, kpw h3, fun h => by simpa [sput] using (h4 (by simpa [did] using h)).below hb, fun _ => ⟨v9, by simp [sput], hP9⟩, fun h => by simpa [sput] using (h6 (by simpa [did] using h)).below hb, fun h => by simpa [sput] using (h7 (by simpa [did] using h)).below hb, kpw h8, fun h => by simpa [sput] using (h9 (by simpa [did] using h)).below hb, kpw h10, below_nx hT hb⟩
    · as_aux_lemma =>
        have g5 := h5 (by simp [hdep])
        unfold OpSteps
        obtain ⟨v8, gv5, gP5⟩ := g5
        simp [go_sem, evS, gv5]
        exact ⟨kpw h0, kpw h1, fun h => by simpa [sput] using h2 (by simpa [did] using h), kpw h3, fun h => by simpa [sput] using h4 (by simpa [did] using h), fun h => by simpa [sput] using h5 (by simpa [did] using h), fun _ => ⟨v8, by simp [sput], gP5⟩, fun h => by simpa [sput] using h7 (by simpa [did] using h), kpw h8, fun h => by simpa [sput] using h9 (by simpa [did] using h), kpw h10, hT⟩
    · as_aux_lemma =>
        have g6 := h6 (by simp [hdep])
        unfold OpSteps
        obtain ⟨v8, gv6, gP6⟩ := g6
        simp [go_sem, evS, gv6]
        exact ⟨kpw h0, kpw h1, fun h => by simpa [sput] using h2 (by simpa [did] using h), kpw h3, fun h => by simpa [sput] using h4 (by simpa [did] using h), fun h => by simpa [sput] using h5 (by simpa [did] using h), fun h => by simpa [sput] using h6 (by simpa [did] using h), fun _ => by simpa [sput] using gP6, kpw h8, fun h => by simpa [sput] using h9 (by simpa [did] using h), kpw h10, hT⟩
    · as_aux_lemma =>
        have g6 := h6 (by simp [hdep])
        unfold OpSteps
        obtain ⟨v8, gv6, gP6⟩ := g6
        simp [go_sem, evS, gv6]
        exact ⟨kpw h0, kpw h1, fun h => by simpa [sput] using h2 (by simpa [did] using h), kpw h3, fun h => by simpa [sput] using h4 (by simpa [did] using h), fun h => by simpa [sput] using h5 (by simpa [did] using h), fun h => by simpa [sput] using h6 (by simpa [did] using h), fun h => by simpa [sput] using h7 (by simpa [did] using h), fun _ => by simp [sput], fun h => by simpa [sput] using h9 (by simpa [did] using h), kpw h10, hT⟩
    · as_aux_lemma =>
        have g7 := h7 (by simp [hdep])
        unfold OpSteps
        obtain ⟨B7, d7, gv7⟩ := g7
        simp [go_sem, evS, gv7]
        exact ⟨kpw h0, kpw h1, fun h => by simpa [sput] using h2 (by simpa [did] using h), kpw h3, fun h => by simpa [sput] using h4 (by simpa [did] using h), fun h => by simpa [sput] using h5 (by simpa [did] using h), fun h => by simpa [sput] using h6 (by simpa [did] using h), fun h => by simpa [sput] using h7 (by simpa [did] using h), kpw h8, fun _ => ⟨B7, d7, by simp [sput]⟩, kpw h10, hT⟩
    · as_aux_lemma =>
        have g8 := h8 (by simp [hdep])
        unfold OpSteps
        simp [go_sem, evS, g8]
        exact ⟨kpw h0, kpw h1, fun h => by simpa [sput] using h2 (by simpa [did] using h), kpw h3, fun h => by simpa [sput] using h4 (by simpa [did] using h), fun h => by simpa [sput] using h5 (by simpa [did] using h), fun h => by simpa [sput] using h6 (by simpa [did] using h), fun h => by simpa [sput] using h7 (by simpa [did] using h), kpw h8, fun h => by simpa [sput] using h9 (by simpa [did] using h), fun _ => by simp [sput], hT⟩
  intro d s W hJ hd
  obtain ⟨h0, h1, h2, h3, h4, h5, h6, h7, h8, h9, h10, hT⟩ := hJ
  have h9' := h9 (hd 9 (by decide))
  have h10' := h10 (hd 10 (by decide))
  have hb : Below we3.heap.size we3 W := hT
  clear h0 h1 h2 h3 h4 h5 h6 h7 h8 h9 h10 hT hd
  simp [setAll, h10']
  clear h10'
  generalize s 91 = s91
  generalize s 92 = s92
  generalize s 93 = s93
  generalize s 94 = s94
  generalize s 95 = s95
  generalize s 96 = s96
  generalize s 90 = s90
  generalize s 97 = s97
  generalize s 98 = s98
  obtain ⟨B9, d9, hs18⟩ := h9'
  simp [hs18]
  clear hs18
  generalize W = wg at *
  have Hm10 := Lib.hid (Hm9.out.nxt hb)
  have Hx10 := Lib.hid (Hx9.out.nxt hb)
  have Hn10 := Lib.hid (Hn9.out.nxt hb)
  have Hp10 := Lib.hid (Hp9.out.nxt hb)
  have Hu10 := Lib.hid (Hu9.out.nxt hb)
  have Hv10 := Lib.hid (Hv9.out.nxt hb)
  have HB10 := Lib.hid (below_nx HB9.out hb)
  clear hb
  clear m0 m1 m2 m3 m4 x0 x1 x2 x3 n0 n1 n2 n3 n4 p0 p1 p2 p3
  obtain ⟨m0, m1, m2, m3, m4⟩ := cells5 Hm10.out
  obtain ⟨x0, x1, x2, x3⟩ := cells4w Hx10.out
  obtain ⟨n0, n1, n2, n3, n4⟩ := cells5 Hn10.out
  obtain ⟨p0, p1, p2, p3⟩ := cells4w Hp10.out
  clear Hm9 Hx9 Hn9 Hp9 Hu9 Hv9 HB9
  go_wp2_with fail
  refine (HAllm.out _ _ _ _ _ Hu10.out.row (HAm.out.below HB10.out)).mono ?_
  rintro e wa0 ⟨rfl, hb⟩
  have Hm11 := Lib.hid (Hm10.out.nxt hb)
  have Hx11 := Lib.hid (Hx10.out.nxt hb)
  have Hn11 := Lib.hid (Hn10.out.nxt hb)
  have Hp11 := Lib.hid (Hp10.out.nxt hb)
  have Hu11 := Lib.hid (Hu10.out.nxt hb)
  have Hv11 := Lib.hid (Hv10.out.nxt hb)
  have HB11 := Lib.hid (below_nx HB10.out hb)
  clear hb
  clear m0 m1 m2 m3 m4 x0 x1 x2 x3 n0 n1 n2 n3 n4 p0 p1 p2 p3
  obtain ⟨m0, m1, m2, m3, m4⟩ := cells5 Hm11.out
  obtain ⟨x0, x1, x2, x3⟩ := cells4w Hx11.out
  obtain ⟨n0, n1, n2, n3, n4⟩ := cells5 Hn11.out
  obtain ⟨p0, p1, p2, p3⟩ := cells4w Hp11.out
  clear Hm10 Hx10 Hn10 Hp10 Hu10 Hv10 HB10
  go_wp2_with fail
  refine (HAllx.out _ _ _ _ _ Hv11.out.row (HAx.out.below HB11.out)).mono ?_
  rintro e wb0 ⟨rfl, hb⟩
  have Hm12 := Lib.hid (Hm11.out.nxt hb)
  have Hx12 := Lib.hid (Hx11.out.nxt hb)
  have Hn12 := Lib.hid (Hn11.out.nxt hb)
  have Hp12 := Lib.hid (Hp11.out.nxt hb)
  have Hu12 := Lib.hid (Hu11.out.nxt hb)
  have Hv12 := Lib.hid (Hv11.out.nxt hb)
  have HB12 := Lib.hid (below_nx HB11.out hb)
  clear hb
  clear m0 m1 m2 m3 m4 x0 x1 x2 x3 n0 n1 n2 n3 n4 p0 p1 p2 p3
  obtain ⟨m0, m1, m2, m3, m4⟩ := cells5 Hm12.out
  obtain ⟨x0, x1, x2, x3⟩ := cells4w Hx12.out
  obtain ⟨n0, n1, n2, n3, n4⟩ := cells5 Hn12.out
  obtain ⟨p0, p1, p2, p3⟩ := cells4w Hp12.out
  clear Hm11 Hx11 Hn11 Hp11 Hu11 Hv11 HB11
  go_wp2_with fail
  refine (awake9_any _).mono ?_
  rintro e wd0 ⟨rfl, hb⟩
  have Hm13 := Lib.hid (Hm12.out.nxt hb)
  have Hx13 := Lib.hid (Hx12.out.nxt hb)
  have Hn13 := Lib.hid (Hn12.out.nxt hb)
  have Hp13 := Lib.hid (Hp12.out.nxt hb)
  have Hu13 := Lib.hid (Hu12.out.nxt hb)
  have Hv13 := Lib.hid (Hv12.out.nxt hb)
  have HB13 := Lib.hid (below_nx HB12.out hb)
  clear hb
  clear m0 m1 m2 m3 m4 x0 x1 x2 x3 n0 n1 n2 n3 n4 p0 p1 p2 p3
  obtain ⟨m0, m1, m2, m3, m4⟩ := cells5 Hm13.out
  obtain ⟨x0, x1, x2, x3⟩ := cells4w Hx13.out
  obtain ⟨n0, n1, n2, n3, n4⟩ := cells5 Hn13.out
  obtain ⟨p0, p1, p2, p3⟩ := cells4w Hp13.out
  clear Hm12 Hx12 Hn12 Hp12 Hu12 Hv12 HB12
  go_wp2_with fail
  go_ret
  exact ⟨rfl, HB13.out⟩

end Go.Proofs.Ytlhdcajamempoaa
