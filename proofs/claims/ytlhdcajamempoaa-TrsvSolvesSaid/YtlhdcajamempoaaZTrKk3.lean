/-
TrsvSolves, no error. Conditions: as each says.
-/
import Derived.Test.YtlhdcajamempoaaZTrM
import Derived.Test.YtlhdcajamempoaaRal
import Derived.Test.YtlhdcajamempoaaRam
import Derived.Test.YtlhdcajamempoaaZMvS
set_option linter.unusedVariables false
set_option linter.unusedSimpArgs false
set_option linter.unnecessarySimpa false
namespace Go.Proofs.Ytlhdcajamempoaa
open Go.RowKit
attribute [local go_sem ↓] Go.wp_at_zero Go.wp_at_succ

set_option maxRecDepth 100000 in
set_option maxHeartbeats 4000000 in
theorem trs_ok3 (kd : Nat) (hkd : kd = 1 ∨ kd = 2 ∨ kd = 3 ∨ kd = 4) (Am : Option Addr) (nm cm : Nat) (lm : List Nat) (Ax : Option Addr) (nx cx : Nat) (lx : List Nat) (o R L ox ix : Nat) (w : World) (hAm : Row w Am (f64s lm)) (hAx : Row w Ax (f64s lx)) (hWm : Wds lm) (hWx : Wds lx) (hlm : lm.length = nm) (hlx : lx.length = nx) (hnm : nm ≤ 1000) (hnx : nx ≤ 1000) (hG : greatB nm (R : Int) (R : Int) = false) (hLx : longB nx (R : Int) = false) (hn0 : nm = 0) (hR : R ≤ 20) (hoI : I64 o) (hLI : I64 L) (hoxI : I64 ox) (hixI : I64 ix) (hL1 : 1 ≤ L) (hRL : R ≤ L) (hmr : R = 0 ∨ R = 0 ∨ o + (R - 1) * L + (R - 1) < nm) (hix : 1 ≤ ix) (hxr : R = 0 ∨ ox + (R - 1) * ix < nx) (hz : trHZ kd (fun i k => lm.getD (o + i + k * L) 0) R = false) :
    Calls Try.prog 4 #[.int .i64 (kd : Int), mat Am nm cm o R R L, vec Ax nx cx ox R ix, .bool true] w fun e w' => e = .returned (.bool true) ∧ Below w.heap.size w w' := by
  have hRI : I64 (R : Int) := by unfold I64; omega
  have HGr := Lib.hid (fun W => great_any Am nm cm o R R L W)
  have HLx := Lib.hid (fun W => long_any Ax nx cx ox R ix W)
  rw [hG] at HGr
  rw [hLx] at HLx
  have HAp := Lib.hid (apart_c Am nm cm lm o R R L w hAm hlm (by omega))
  have HAl := Lib.hid (alone_c Ax nx cx lx ox R ix w hAx hlx (by omega))
  have HGm := Lib.hid (fun W => rgood_any Am nm cm o R R L W (by omega) hoI hRI hRI hLI)
  have HRx := Lib.hid (fun W => rright_any Ax nx cx ox R ix W (by omega) hoxI hRI hixI)
  have HAllm := Lib.hid (all_c lm nm hWm hlm (by omega))
  have HAllx := Lib.hid (all_c lx nx hWx hlx (by omega))
  rw [vec_right hix hxr] at HRx
  rw [mat_right hL1 hRL hmr] at HGm
  obtain ⟨E, F, hS⟩ := trS_exists kd R (trV kd (fun i k => lm.getD (o + i + k * L) 0)) (fun p => lx.getD (ox + p * ix) 0) hkd
  have HPr := Lib.hid (fun W (g cg gx cx9 : Nat) (h1 : gx ≠ g) (hO : Own W g lm) (hX : Own W gx lx) => show Calls Try.prog 17 #[.int .i64 (kd : Int), mat (some ⟨g, 0, none⟩) nm cg o R R L, vec (some ⟨gx, 0, none⟩) nx cx9 ox R ix] W fun e w' => e = .returned (.int .i64 0) ∧ ∃ y, TrL lx ox ix R F y ∧ Own w' gx y ∧ Chg [gx] W w' from
    trsv_ok kd hkd (some ⟨g, 0, none⟩) nm cg o R L (fun i k => lm.getD (o + i + k * L) 0) gx nx cx9 ox ix lx E F W (by omega) hLI (by omega) hL1 hRL hmr hoI (by omega) hoxI hixI hix hxr (fun W' hb => trmeets_far gx cx9 nx lx ox R ix g cg nm lm o R R L W' (hX.nxt hb) (hO.nxt hb) h1 hlx hlm (by omega) (by omega) hoxI hRI hixI hoI hRI hRI hLI) (MxC.of_row hO.row hlm hmr) hz
      ⟨hkd, by omega, hLI, by omega, hL1, hRL, hmr, hlx, by omega, hix, fun i k => tr_wds hWm _, fun q hq => by
        rcases hxr with h0 | h0
        · omega
        · exact place_lt h0 hq, fun W' q v hq h i hi k hk => by
        obtain ⟨b, x, e, hc⟩ := h i hi k hk
        injection e with e; injection e with e1 e2
        subst e1
        exact ⟨g, x, by rw [e2], (cell_set (fun e => h1 e.symm) _).trans hc⟩, hX.lt⟩ hS hX hWx)
  obtain ⟨N, hN⟩ : ∃ N, R * R = N := ⟨_, rfl⟩
  have hNb : N ≤ 400 := by
    have h1 : R * R ≤ 20 * 20 := Nat.mul_le_mul hR hR
    omega
  have HOf := Lib.hid (fun W (hb : Below w.heap.size w W) => show Calls Try.prog 23 #[mat Am nm cm o R R L] W fun e w' => ∃ g T, e = .returned (tbl R R g N N) ∧ Tab lm o R R L N T ∧ Row w' (some ⟨g, 0, none⟩) (f64s T) ∧ Below W.heap.size W w' from by
    refine (rof_any Am nm cm lm o R R L N W (hAm.below hb) hlm (by omega) hN (by omega) (by omega) (by omega) hmr).mono ?_
    rintro e w' ⟨g', T, e1, e2, e3, _, e4⟩
    exact ⟨g', T, e1, e2, e3, e4⟩)
  have HLs := Lib.hid (fun W (hb : Below w.heap.size w W) => show Calls Try.prog 24 #[vec Ax nx cx ox R ix] W fun e w' => ∃ B d, e = .returned (.slice B R d) ∧ Row w' B (f64s (lst lx ox ix R)) ∧ Below W.heap.size W w' from
    rlist_any Ax nx cx lx ox R ix W (hAx.below hb) hlx (by omega) hxr (by omega))
  have hag : ∀ T, Tab lm o R R L N T → ∀ p, p < R → ∀ q, q < R → T.getD (p * R + q) 0 = (fun i k => lm.getD (o + i + k * L) 0) p q := fun T hT p hp q hq => tab_get hT hN hp hq
  have HRs := Lib.hid (fun (g cT : Nat) (T : List Nat) (A : Option Addr) (d : Nat) W (hT : Tab lm o R R L N T) (h : Row W (some ⟨g, 0, none⟩) (f64s T)) (hA : Row W A (f64s (lst lx ox ix R))) => show Calls Try.prog 22 #[.int .i64 (kd : Int), tbl R R g N cT, .slice A R d] W fun e w' => ∃ v, e = .returned (.tuple #[v, .bool true]) ∧ SlG w' v (fun y => y.length = R ∧ ∀ p, p < R → Is (y.getD p 0) (F p)) R ∧ Below W.heap.size W w' from
    (rtsolve_any kd hkd R g N cT T A d (lst lx ox ix R) E F W h (by rw [hT.1, hN]) hN (by omega) (fun h0 => row_ltg h (by rw [hT.1, hN]) h0) (by omega) (tab_wds2 hT hN hWm) hA (lst_length _ _ _ _) (wds_lstg hWx _ _ _) (hS.agree hkd (fun p hp q hq => (trV_agree (hag T hT) p hp q hq).symm) (fun p hp => (lst_getD lx ox ix hp).symm)) (by rw [trHZ_agree (hag T hT)]; exact hz)).mono fun e w' ⟨g, c, y, e1, e2, e3, _, e4⟩ => ⟨_, e1, ⟨_, c, y, rfl, e2, e3.row⟩, e4⟩)
  obtain ⟨X1, hX1⟩ : ∃ z, lst lx ox ix R = z := ⟨_, rfl⟩
  rw [hX1] at HLs HRs
  have HMs := Lib.hid (fun W => mspan_any Am nm cm o R R L W (by omega) (by omega) (by omega) hmr)
  have HVx := Lib.hid (fun W => vspan_any Ax nx cx ox R ix W (by omega) (by omega) hxr)
  obtain ⟨x1, hx1⟩ : ∃ z, vsA ox R = z := ⟨_, rfl⟩
  obtain ⟨x2, hx2⟩ : ∃ z, vsB ox R ix = z := ⟨_, rfl⟩
  obtain ⟨m1, hm1⟩ : ∃ z, msA o R R = z := ⟨_, rfl⟩
  obtain ⟨m2, hm2⟩ : ∃ z, msB o R R L = z := ⟨_, rfl⟩
  rw [hx1, hx2] at HVx
  rw [hm1, hm2] at HMs
  have e1 : decide ((kd : Int) < 1) = false := decide_eq_false (by omega)
  have e2 : decide ((4 : Int) < (kd : Int)) = false := decide_eq_false (by omega)
  have tR : ((R : Int) == (R : Int)) = true := by simp
  have tR' : ((R : Int) != (R : Int)) = false := by simp
  have HWr := Lib.hid (fun W (B : Option Addr) (d : Nat) (y : List Nat) (hb : Below w.heap.size w W) (hB : Row W B (f64s y)) (hy : y.length = R ∧ ∀ p, p < R → Is (y.getD p 0) (F p)) => show Calls Try.prog 27 #[vec Ax nx cx ox R ix, .slice B R d] W fun e w' => ∃ B d z, e = .returned (.slice B nx d) ∧ TrL lx ox ix R F z ∧ Row w' B (f64s z) ∧ Below W.heap.size W w' from by
    refine (rwrite_any Ax nx cx lx ox R ix B d y W (hAx.below hb) hlx (by omega) hix hxr hB hy.1).mono ?_
    rintro e w' ⟨g, c, e1, e2, _, e3⟩
    exact ⟨_, c, _, e1, trl_wrt hix (by rw [hlx]; exact hxr) hy, e2.row, e3⟩)
  have HFin := Lib.hid (fun W (A B : Option Addr) (c d : Nat) (x y : List Nat) (hx : TrL lx ox ix R F x) (hy : TrL lx ox ix R F y) (h1 : Row W A (f64s x)) (h2 : Row W B (f64s y)) => show Calls Try.prog 26 #[.slice A nx c, .slice B nx d] W fun e w' => e = .returned (.bool true) ∧ Below W.heap.size W w' from by
    have := rall_any A B c d x y W (hx.wds hWx) (hy.wds hWx) h1 h2 (by rw [hx.1]; omega) (hx.alike hy)
    rw [hx.1, hy.1, hlx] at this; exact this)
  have HAm := Lib.hid hAm
  have HAx := Lib.hid hAx
  have d1 : decide ((0 : Int) < (nm : Int)) = false := by rw [hn0]; rfl
  have d2 : decide (0 < nm) = false := by rw [hn0]; rfl
  clear hAm hAx hWm hWx hlm hlx hnm hnx hG hLx hn0 hR hoI hLI hoxI hixI hL1 hRL hmr hix hxr hRI hN hNb hag hz hX1 hx1 hx2 hm1 hm2 hkd hS
  unfold mat vec tbl at *
  go_enter Try.func4, Try.ntmps4
  have Hm0 := Lib.hid ((Blk.new w 26 #[.slice Am nm cm, .int .i64 (o : Int), .int .i64 (R : Int), .int .i64 (R : Int), .int .i64 (L : Int)]).alloc (.cells #[.slice Ax nx cx, .int .i64 (ox : Int), .int .i64 (R : Int), .int .i64 (ix : Int)] 32))
  have Hx0 := Lib.hid (Blk.new_ (w.alloc (.cells #[.slice Am nm cm, .int .i64 (o : Int), .int .i64 (R : Int), .int .i64 (R : Int), .int .i64 (L : Int)] 26)) 32 #[.slice Ax nx cx, .int .i64 (ox : Int), .int .i64 (R : Int), .int .i64 (ix : Int)] (w.heap.size + 1) (by simp))
  have HB0 := Lib.hid (((Below.refl w.heap.size w).alloc (Nat.le_refl _) (.cells #[.slice Am nm cm, .int .i64 (o : Int), .int .i64 (R : Int), .int .i64 (R : Int), .int .i64 (L : Int)] 26)).alloc (by simp) (.cells #[.slice Ax nx cx, .int .i64 (ox : Int), .int .i64 (R : Int), .int .i64 (ix : Int)] 32))
  obtain ⟨m0, m1, m2, m3, m4⟩ := cells5 Hm0.out
  obtain ⟨x0, x1, x2, x3⟩ := cells4w Hx0.out
  go_wp2_with fail
  refine (awake9_any _).mono ?_
  rintro e w1 ⟨rfl, hb⟩
  have Hm1 := Lib.hid (Hm0.out.nxt hb)
  have Hx1 := Lib.hid (Hx0.out.nxt hb)
  have HB1 := Lib.hid (below_nx HB0.out hb)
  clear hb
  clear m0 m1 m2 m3 m4 x0 x1 x2 x3
  obtain ⟨m0, m1, m2, m3, m4⟩ := cells5 Hm1.out
  obtain ⟨x0, x1, x2, x3⟩ := cells4w Hx1.out
  clear Hm0 Hx0 HB0
  go_wp2_with fail
  refine (HGr.out _).mono ?_
  rintro e w2 ⟨rfl, hb⟩
  have Hm2 := Lib.hid (Hm1.out.nxt hb)
  have Hx2 := Lib.hid (Hx1.out.nxt hb)
  have HB2 := Lib.hid (below_nx HB1.out hb)
  clear hb
  clear m0 m1 m2 m3 m4 x0 x1 x2 x3
  obtain ⟨m0, m1, m2, m3, m4⟩ := cells5 Hm2.out
  obtain ⟨x0, x1, x2, x3⟩ := cells4w Hx2.out
  clear Hm1 Hx1 HB1
  go_wp2_with fail
  refine (HLx.out _).mono ?_
  rintro e w3 ⟨rfl, hb⟩
  have Hm3 := Lib.hid (Hm2.out.nxt hb)
  have Hx3 := Lib.hid (Hx2.out.nxt hb)
  have HB3 := Lib.hid (below_nx HB2.out hb)
  clear hb
  clear m0 m1 m2 m3 m4 x0 x1 x2 x3
  obtain ⟨m0, m1, m2, m3, m4⟩ := cells5 Hm3.out
  obtain ⟨x0, x1, x2, x3⟩ := cells4w Hx3.out
  clear Hm2 Hx2 HB2
  go_wp2_with fail
  refine wp_region_inv [40, 41, 42, 43, 9, 10] (fun d s W => (d 0 = true → s 40 = .agg #[.slice Am nm cm, .int .i64 (o : Int), .int .i64 (R : Int), .int .i64 (R : Int), .int .i64 (L : Int)]) ∧ (d 1 = true → OwM W (s 41) w3.heap.size lm nm (o : Int) (R : Int) (R : Int) (L : Int)) ∧ (d 2 = true → s 42 = .agg #[.slice Ax nx cx, .int .i64 (ox : Int), .int .i64 (R : Int), .int .i64 (ix : Int)]) ∧ (d 3 = true → OwV W (s 43) w3.heap.size lx nx (ox : Int) (R : Int) (ix : Int)) ∧ (d 4 = true → NbM W (s 9) w3.heap.size) ∧ (d 5 = true → NbV W (s 10) w3.heap.size) ∧ (d 6 = true → PqM W (s 9) (lb (s 41)) w3.heap.size lm nm (o : Int) (R : Int) (R : Int) (L : Int)) ∧ (d 7 = true → PqV W (s 10) (lb (s 43)) w3.heap.size lx nx (ox : Int) (R : Int) (ix : Int)) ∧ (d 6 = true → d 4 = true) ∧ (d 7 = true → d 5 = true) ∧ (d 1 = true → d 3 = true → lb (s 41) ≠ lb (s 43)) ∧ (d 6 = true → d 1 = true) ∧ (d 7 = true → d 3 = true) ∧ Below w3.heap.size w3 W)
    rfl (by kernel_rfl) ?_ ?_ ?_
  · exact ⟨by simp, by simp, by simp, by simp, by simp, by simp, by simp, by simp, by simp, by simp, by simp, by simp, by simp, (Below.refl _ _).drew⟩
  · refine ⟨?_, ?_, ?_, ?_, ?_, ?_, ?_, ?_, trivial⟩
    all_goals
      intro d s W hJ hfr hd hdep
      simp only [List.mem_cons, forall_eq_or_imp, List.not_mem_nil, false_implies, implies_true, and_true, Region.binds] at hdep
      have f5 := hfr 5 (by decide)
      have f6 := hfr 6 (by decide)
      simp at f5 f6 hdep
      obtain ⟨h0, h1, h2, h3, h4, h5, h6, h7, x0, x1, x2, x3, x4, hT⟩ := hJ
    · as_aux_lemma =>
        unfold OpSteps
        obtain ⟨p0, p1, p2, p3, p4⟩ := cells5 (Hm3.out.below hT Hm3.out.lt)
        simp [go_sem, evS, f5, p0, p1, p2, p3, p4]
        exact ⟨fun _ => by simp [sput], fun h => by simpa [sput] using h1 (by simpa [did] using h), kpw h2, fun h => by simpa [sput] using h3 (by simpa [did] using h), fun h => by simpa [sput] using h4 (by simpa [did] using h), fun h => by simpa [sput] using h5 (by simpa [did] using h), fun h => by simpa [sput] using h6 (by simpa [did] using h), fun h => by simpa [sput] using h7 (by simpa [did] using h), by simpa [sput, did] using x0, by simpa [sput, did] using x1, by simpa [sput, did] using x2, by simpa [sput, did] using x3, by simpa [sput, did] using x4, hT⟩
    · as_aux_lemma =>
        have g0 := h0 (by simp [hdep])
        unfold OpSteps
        simp [go_sem, evS, g0]
        refine (HAp.out W (below_nx HB3.out hT)).mono ?_
        rintro e W' ⟨g9, c9, rfl, ho, hg, hb⟩
        refine ⟨_, rfl, ?_⟩
        exact ⟨kpw h0, fun _ => ⟨g9, c9, by simp [sput], ho, Nat.le_trans hT.size hg⟩, kpw h2, fun h => by simpa [sput] using (h3 (by simpa [did] using h)).below hb, fun h => by simpa [sput] using (h4 (by simpa [did] using h)).below hb, fun h => by simpa [sput] using (h5 (by simpa [did] using h)).below hb, fun h => by have := x3 (by simpa [did] using h); simp [hd] at this, fun h => by simpa [sput] using (h7 (by simpa [did] using h)).below hb, by simpa [sput, did] using x0, by simpa [sput, did] using x1, fun _ e3 => by have hq := (h3 (by simpa [did] using e3)).lb_lt; simp [sput, lb_mat]; omega, fun _ => by simp [did], by simpa [sput, did] using x4, below_nx hT hb⟩
    · as_aux_lemma =>
        unfold OpSteps
        obtain ⟨p0, p1, p2, p3⟩ := cells4w (Hx3.out.below hT Hx3.out.lt)
        simp [go_sem, evS, f6, p0, p1, p2, p3]
        exact ⟨kpw h0, fun h => by simpa [sput] using h1 (by simpa [did] using h), fun _ => by simp [sput], fun h => by simpa [sput] using h3 (by simpa [did] using h), fun h => by simpa [sput] using h4 (by simpa [did] using h), fun h => by simpa [sput] using h5 (by simpa [did] using h), fun h => by simpa [sput] using h6 (by simpa [did] using h), fun h => by simpa [sput] using h7 (by simpa [did] using h), by simpa [sput, did] using x0, by simpa [sput, did] using x1, by simpa [sput, did] using x2, by simpa [sput, did] using x3, by simpa [sput, did] using x4, hT⟩
    · as_aux_lemma =>
        have g2 := h2 (by simp [hdep])
        unfold OpSteps
        simp [go_sem, evS, g2]
        refine (HAl.out W (below_nx HB3.out hT)).mono ?_
        rintro e W' ⟨g9, c9, rfl, ho, hg, hb⟩
        refine ⟨_, rfl, ?_⟩
        exact ⟨kpw h0, fun h => by simpa [sput] using (h1 (by simpa [did] using h)).below hb, kpw h2, fun _ => ⟨g9, c9, by simp [sput], ho, Nat.le_trans hT.size hg⟩, fun h => by simpa [sput] using (h4 (by simpa [did] using h)).below hb, fun h => by simpa [sput] using (h5 (by simpa [did] using h)).below hb, fun h => by simpa [sput] using (h6 (by simpa [did] using h)).below hb, fun h => by have := x4 (by simpa [did] using h); simp [hd] at this, by simpa [sput, did] using x0, by simpa [sput, did] using x1, fun e1 _ => by have hq := (h1 (by simpa [did] using e1)).lb_lt; simp [sput, lb_vec]; omega, by simpa [sput, did] using x3, fun _ => by simp [did], below_nx hT hb⟩
    · as_aux_lemma =>
        unfold OpSteps
        simp [go_sem, evS]
        exact ⟨kpw h0, fun h => by simpa [sput] using (h1 (by simpa [did] using h)).below below_one, kpw h2, fun h => by simpa [sput] using (h3 (by simpa [did] using h)).below below_one, fun _ => ⟨W.heap.size, _, _, _, _, _, by simp [sput], Blk.new W _ _, hT.size⟩, fun h => by simpa [sput] using (h5 (by simpa [did] using h)).below below_one, fun h => by have := x0 (by simpa [did] using h); simp [hd] at this, fun h => by simpa [sput] using (h7 (by simpa [did] using h)).below below_one, fun _ => by simp [did], by simpa [sput, did] using x1, by simpa [sput, did] using x2, by simpa [sput, did] using x3, by simpa [sput, did] using x4, below_al hT⟩
    · as_aux_lemma =>
        unfold OpSteps
        simp [go_sem, evS]
        exact ⟨kpw h0, fun h => by simpa [sput] using (h1 (by simpa [did] using h)).below below_one, kpw h2, fun h => by simpa [sput] using (h3 (by simpa [did] using h)).below below_one, fun h => by simpa [sput] using (h4 (by simpa [did] using h)).below below_one, fun _ => ⟨W.heap.size, _, _, _, _, by simp [sput], Blk.new W _ _, hT.size⟩, fun h => by simpa [sput] using (h6 (by simpa [did] using h)).below below_one, fun h => by have := x1 (by simpa [did] using h); simp [hd] at this, by simpa [sput, did] using x0, fun _ => by simp [did], by simpa [sput, did] using x2, by simpa [sput, did] using x3, by simpa [sput, did] using x4, below_al hT⟩
    · as_aux_lemma =>
        have g4 := h4 (by simp [hdep])
        have g1 := h1 (by simp [hdep])
        unfold OpSteps
        obtain ⟨p9, z0, z1, z2, z3, z4, gp, hB9, hlo⟩ := g4
        obtain ⟨g9, c9, gv, gO, gz⟩ := g1
        obtain ⟨fr0, fr1, fr2, fr3, fr4⟩ := frozen5w hB9
        obtain ⟨k0, k1, k2, k3, k4⟩ := cells5 hB9
        have hfar : ∀ k9, k9 ≠ p9 → _ := fun k9 (hk9 : k9 ≠ p9) => heap_sets5 (w := W) hk9 (.slice (some ⟨g9, 0, none⟩) nm c9) (.int .i64 (o : Int)) (.int .i64 (R : Int)) (.int .i64 (R : Int)) (.int .i64 (L : Int))
        simp [go_sem, evS, gp, gv, fr0, fr1, fr2, fr3, fr4, k0, k1, k2, k3, k4]
        exact ⟨kpw h0, fun h => by simpa [sput] using (h1 (by simpa [did] using h)).far hB9 (by decide) hfar, kpw h2, fun h => by simpa [sput] using (h3 (by simpa [did] using h)).far hB9 (by decide) hfar, fun h => ⟨p9, _, _, _, _, _, by simpa [sput] using gp, Blk.store5 hB9 _ _ _ _ _, hlo⟩, fun h => by simpa [sput] using (h5 (by simpa [did] using h)).far ((h5 (by simpa [did] using h)).ne_ hB9 (by decide)) hfar, fun _ => by simp only [sput, gv, lb_mat]; exact ⟨p9, c9, by simpa using gp, Blk.store5 hB9 _ _ _ _ _, own_off gO (own_ne gO hB9 (by decide)) hfar, hlo, gz⟩, fun h => by simpa [sput] using (h7 (by simpa [did] using h)).far hB9 (by decide) ((h5 (x1 (by simpa [did] using h))).ne_ hB9 (by decide)) hfar, fun _ => by simp [did, hdep], by simpa [sput, did] using x1, by simpa [sput, did] using x2, fun _ => by simp [did, hdep], by simpa [sput, did] using x4, below_sets5 hT hlo _ _ _ _ _⟩
    · as_aux_lemma =>
        have g5 := h5 (by simp [hdep])
        have g3 := h3 (by simp [hdep])
        unfold OpSteps
        obtain ⟨p9, z0, z1, z2, z3, gp, hB9, hlo⟩ := g5
        obtain ⟨g9, c9, gv, gO, gz⟩ := g3
        obtain ⟨fr0, fr1, fr2, fr3⟩ := frozen4w hB9
        obtain ⟨k0, k1, k2, k3⟩ := cells4w hB9
        have hfar : ∀ k9, k9 ≠ p9 → _ := fun k9 (hk9 : k9 ≠ p9) => heap_sets4 (w := W) hk9 (.slice (some ⟨g9, 0, none⟩) nx c9) (.int .i64 (ox : Int)) (.int .i64 (R : Int)) (.int .i64 (ix : Int))
        simp [go_sem, evS, gp, gv, fr0, fr1, fr2, fr3, k0, k1, k2, k3]
        exact ⟨kpw h0, fun h => by simpa [sput] using (h1 (by simpa [did] using h)).far hB9 (by decide) hfar, kpw h2, fun h => by simpa [sput] using (h3 (by simpa [did] using h)).far hB9 (by decide) hfar, fun h => by simpa [sput] using (h4 (by simpa [did] using h)).far ((h4 (by simpa [did] using h)).ne_ hB9 (by decide)) hfar, fun h => ⟨p9, _, _, _, _, by simpa [sput] using gp, Blk.store4v hB9 _ _ _ _, hlo⟩, fun h => by simpa [sput] using (h6 (by simpa [did] using h)).far hB9 (by decide) ((h4 (x0 (by simpa [did] using h))).ne_ hB9 (by decide)) hfar, fun _ => by simp only [sput, gv, lb_vec]; exact ⟨p9, c9, by simpa using gp, Blk.store4v hB9 _ _ _ _, own_off gO (own_ne gO hB9 (by decide)) hfar, hlo, gz⟩, by simpa [sput, did] using x0, fun _ => by simp [did, hdep], by simpa [sput, did] using x2, by simpa [sput, did] using x3, fun _ => by simp [did, hdep], below_sets4 hT hlo _ _ _ _⟩
  intro d s W hJ hd
  obtain ⟨h0, h1, h2, h3, h4, h5, h6, h7, x0, x1, x2, x3, x4, hT⟩ := hJ
  have hd1 := hd 1 (by decide)
  have hgx := x2 hd1 (hd 3 (by decide))
  have h6' := h6 (hd 6 (by decide))
  have h7' := h7 (hd 7 (by decide))
  clear h0 h1 h2 h3 h4 h5 h6 h7 x0 x1 x2 x3 x4 hd hd1
  generalize lb (s 41) = gn at *
  generalize lb (s 43) = gp at *
  obtain ⟨pn, cn, hs9, hBn, hOn, hnl, hgl⟩ := h6'
  obtain ⟨pp, cp9, hs10, hBp, hOp, hpl, hgl2⟩ := h7'
  have hnp : pn ≠ pp := blk_ne hBn hBp (by decide)
  have hb : Below w3.heap.size w3 W := hT
  clear hT
  simp [setAll, hs9, hs10]
  clear hs9 hs10
  generalize s 40 = s40
  generalize s 41 = s41
  generalize s 42 = s42
  generalize s 43 = s43
  have hy5 : w.heap.size + 1 < w3.heap.size := Hx3.out.lt
  have HNe := Lib.hid (show gn ≠ gp ∧ pn ≠ pp ∧ w.heap.size + 1 < pn ∧ w.heap.size + 1 < pp ∧ w.heap.size + 1 < gn ∧ w.heap.size + 1 < gp from by refine ⟨hgx, hnp, by omega, by omega, by omega, by omega⟩)
  clear hy5 hnp hgx hnl hgl hpl hgl2
  generalize hW6 : W = w6 at *
  clear hW6
  have Hm4 := Lib.hid (Hm3.out.nxt hb)
  have Hx4 := Lib.hid (Hx3.out.nxt hb)
  have HB4 := Lib.hid (below_nx HB3.out hb)
  clear hb
  clear m0 m1 m2 m3 m4 x0 x1 x2 x3
  obtain ⟨m0, m1, m2, m3, m4⟩ := cells5 Hm4.out
  obtain ⟨x0, x1, x2, x3⟩ := cells4w Hx4.out
  clear Hm3 Hx3 HB3
  have Hn4 := Lib.hid hBn
  have Hp4 := Lib.hid hBp
  have Hu4 := Lib.hid hOn
  have Hv4 := Lib.hid hOp
  clear hBn hBp hOn hOp
  clear m0 m1 m2 m3 m4 x0 x1 x2 x3
  clear HAp HAl HGr HLx
  obtain ⟨m0, m1, m2, m3, m4⟩ := cells5 Hm4.out
  obtain ⟨x0, x1, x2, x3⟩ := cells4w Hx4.out
  obtain ⟨n0, n1, n2, n3, n4⟩ := cells5 Hn4.out
  obtain ⟨p0, p1, p2, p3⟩ := cells4w Hp4.out
  go_wp2_with fail
  refine (HPr.out _ gn cn gp cp9 HNe.out.1.symm Hu4.out Hv4.out).mono ?_
  rintro e w8 ⟨rfl, l1, hi1, ho1, hc⟩
  have Hm5 := Lib.hid (hc.blk (fun h => own_ne Hv4.out Hm4.out (by decide) (List.mem_singleton.1 h).symm) Hm4.out)
  have Hx5 := Lib.hid (hc.blk (fun h => own_ne Hv4.out Hx4.out (by decide) (List.mem_singleton.1 h).symm) Hx4.out)
  have Hn5 := Lib.hid (hc.blk (fun h => own_ne Hv4.out Hn4.out (by decide) (List.mem_singleton.1 h).symm) Hn4.out)
  have Hp5 := Lib.hid (hc.blk (fun h => own_ne Hv4.out Hp4.out (by decide) (List.mem_singleton.1 h).symm) Hp4.out)
  have Hv5 := Lib.hid ho1
  have HI := Lib.hid hi1
  have Hu5 := Lib.hid (hc.own (fun h => HNe.out.1 (List.mem_singleton.1 h)) Hu4.out)
  have HB5 := Lib.hid (hc.below HB4.out HB4.out.size (fun x hx => by have := HNe.out; simp at hx; omega))
  clear ho1 hi1 hc HPr
  clear Hm4 Hx4 Hn4 Hp4 Hu4 Hv4 HB4
  clear m0 m1 m2 m3 m4 x0 x1 x2 x3 n0 n1 n2 n3 n4 p0 p1 p2 p3
  obtain ⟨m0, m1, m2, m3, m4⟩ := cells5 Hm5.out
  obtain ⟨x0, x1, x2, x3⟩ := cells4w Hx5.out
  obtain ⟨n0, n1, n2, n3, n4⟩ := cells5 Hn5.out
  obtain ⟨p0, p1, p2, p3⟩ := cells4w Hp5.out
  go_wp2_with fail
  refine (HGm.out _).mono ?_
  rintro e we0 ⟨rfl, hb⟩
  have Hm6 := Lib.hid (Hm5.out.nxt hb)
  have Hx6 := Lib.hid (Hx5.out.nxt hb)
  have Hn6 := Lib.hid (Hn5.out.nxt hb)
  have Hp6 := Lib.hid (Hp5.out.nxt hb)
  have Hu6 := Lib.hid (Hu5.out.nxt hb)
  have Hv6 := Lib.hid (Hv5.out.nxt hb)
  have HB6 := Lib.hid (below_nx HB5.out hb)
  clear hb
  clear m0 m1 m2 m3 m4 x0 x1 x2 x3 n0 n1 n2 n3 n4 p0 p1 p2 p3
  obtain ⟨m0, m1, m2, m3, m4⟩ := cells5 Hm6.out
  obtain ⟨x0, x1, x2, x3⟩ := cells4w Hx6.out
  obtain ⟨n0, n1, n2, n3, n4⟩ := cells5 Hn6.out
  obtain ⟨p0, p1, p2, p3⟩ := cells4w Hp6.out
  clear Hm5 Hx5 Hn5 Hp5 Hu5 Hv5 HB5
  go_wp2_with fail
  refine (HRx.out _).mono ?_
  rintro e we1 ⟨rfl, hb⟩
  have Hm7 := Lib.hid (Hm6.out.nxt hb)
  have Hx7 := Lib.hid (Hx6.out.nxt hb)
  have Hn7 := Lib.hid (Hn6.out.nxt hb)
  have Hp7 := Lib.hid (Hp6.out.nxt hb)
  have Hu7 := Lib.hid (Hu6.out.nxt hb)
  have Hv7 := Lib.hid (Hv6.out.nxt hb)
  have HB7 := Lib.hid (below_nx HB6.out hb)
  clear hb
  clear m0 m1 m2 m3 m4 x0 x1 x2 x3 n0 n1 n2 n3 n4 p0 p1 p2 p3
  obtain ⟨m0, m1, m2, m3, m4⟩ := cells5 Hm7.out
  obtain ⟨x0, x1, x2, x3⟩ := cells4w Hx7.out
  obtain ⟨n0, n1, n2, n3, n4⟩ := cells5 Hn7.out
  obtain ⟨p0, p1, p2, p3⟩ := cells4w Hp7.out
  clear Hm6 Hx6 Hn6 Hp6 Hu6 Hv6 HB6
  go_wp2_with fail
  refine (HVx.out _).mono ?_
  rintro e we2 ⟨rfl, hb⟩
  have Hm8 := Lib.hid (Hm7.out.nxt hb)
  have Hx8 := Lib.hid (Hx7.out.nxt hb)
  have Hn8 := Lib.hid (Hn7.out.nxt hb)
  have Hp8 := Lib.hid (Hp7.out.nxt hb)
  have Hu8 := Lib.hid (Hu7.out.nxt hb)
  have Hv8 := Lib.hid (Hv7.out.nxt hb)
  have HB8 := Lib.hid (below_nx HB7.out hb)
  clear hb
  clear m0 m1 m2 m3 m4 x0 x1 x2 x3 n0 n1 n2 n3 n4 p0 p1 p2 p3
  obtain ⟨m0, m1, m2, m3, m4⟩ := cells5 Hm8.out
  obtain ⟨x0, x1, x2, x3⟩ := cells4w Hx8.out
  obtain ⟨n0, n1, n2, n3, n4⟩ := cells5 Hn8.out
  obtain ⟨p0, p1, p2, p3⟩ := cells4w Hp8.out
  clear Hm7 Hx7 Hn7 Hp7 Hu7 Hv7 HB7
  go_wp2_with fail
  refine (HMs.out _).mono ?_
  rintro e we3 ⟨rfl, hb⟩
  have Hm9 := Lib.hid (Hm8.out.nxt hb)
  have Hx9 := Lib.hid (Hx8.out.nxt hb)
  have Hn9 := Lib.hid (Hn8.out.nxt hb)
  have Hp9 := Lib.hid (Hp8.out.nxt hb)
  have Hu9 := Lib.hid (Hu8.out.nxt hb)
  have Hv9 := Lib.hid (Hv8.out.nxt hb)
  have HB9 := Lib.hid (below_nx HB8.out hb)
  clear hb
  clear m0 m1 m2 m3 m4 x0 x1 x2 x3 n0 n1 n2 n3 n4 p0 p1 p2 p3
  obtain ⟨m0, m1, m2, m3, m4⟩ := cells5 Hm9.out
  obtain ⟨x0, x1, x2, x3⟩ := cells4w Hx9.out
  obtain ⟨n0, n1, n2, n3, n4⟩ := cells5 Hn9.out
  obtain ⟨p0, p1, p2, p3⟩ := cells4w Hp9.out
  clear Hm8 Hx8 Hn8 Hp8 Hu8 Hv8 HB8
  go_wp2_with fail
  refine wp_region_inv [91, 92, 93, 94, 95, 96, 90, 97, 98, 18, 19] (fun d s W => (d 0 = true → s 91 = .int .i64 (kd : Int)) ∧ (d 1 = true → s 92 = .agg #[.slice Am nm cm, .int .i64 (o : Int), .int .i64 (R : Int), .int .i64 (R : Int), .int .i64 (L : Int)]) ∧ (d 2 = true → TbG W (s 93) (Tab lm o R R L N) R R N) ∧ (d 3 = true → s 94 = .agg #[.slice Ax nx cx, .int .i64 (ox : Int), .int .i64 (R : Int), .int .i64 (ix : Int)]) ∧ (d 4 = true → SlG W (s 95) (fun z => z = X1) R) ∧ (d 5 = true → TpS W (s 96) (fun y => y.length = R ∧ ∀ p, p < R → Is (y.getD p 0) (F p)) R) ∧ (d 6 = true → TpS W (s 90) (fun y => y.length = R ∧ ∀ p, p < R → Is (y.getD p 0) (F p)) R) ∧ (d 7 = true → SlG W (s 97) (fun y => y.length = R ∧ ∀ p, p < R → Is (y.getD p 0) (F p)) R) ∧ (d 8 = true → s 98 = .bool true) ∧ (d 9 = true → SlG W (s 18) (fun y => y.length = R ∧ ∀ p, p < R → Is (y.getD p 0) (F p)) R) ∧ (d 10 = true → s 19 = .bool true) ∧ Below we3.heap.size we3 W)
    rfl (by kernel_rfl) ?_ ?_ ?_
  · exact ⟨by simp, by simp, by simp, by simp, by simp, by simp, by simp, by simp, by simp, by simp, by simp, (Below.refl _ _).drew⟩
  · refine ⟨?_, ?_, ?_, ?_, ?_, ?_, ?_, ?_, ?_, ?_, ?_, trivial⟩
    all_goals
      intro d s W hJ hfr hd hdep
      simp only [List.mem_cons, forall_eq_or_imp, List.not_mem_nil, false_implies, implies_true, and_true, Region.binds] at hdep
      have f0 := hfr 0 (by decide)
      have f5 := hfr 5 (by decide)
      have f6 := hfr 6 (by decide)
      simp at f0 f5 f6 hdep
      obtain ⟨h0, h1, h2, h3, h4, h5, h6, h7, h8, h9, h10, hT⟩ := hJ
    · as_aux_lemma =>
        unfold OpSteps
        simp [go_sem, evS, f0]
        exact ⟨fun _ => by simp [sput], kpw h1, fun h => by simpa [sput] using h2 (by simpa [did] using h), kpw h3, fun h => by simpa [sput] using h4 (by simpa [did] using h), fun h => by simpa [sput] using h5 (by simpa [did] using h), fun h => by simpa [sput] using h6 (by simpa [did] using h), fun h => by simpa [sput] using h7 (by simpa [did] using h), kpw h8, fun h => by simpa [sput] using h9 (by simpa [did] using h), kpw h10, hT⟩
    · as_aux_lemma =>
        unfold OpSteps
        obtain ⟨p0, p1, p2, p3, p4⟩ := cells5 (Hm9.out.below hT Hm9.out.lt)
        simp [go_sem, evS, f5, p0, p1, p2, p3, p4]
        exact ⟨kpw h0, fun _ => by simp [sput], fun h => by simpa [sput] using h2 (by simpa [did] using h), kpw h3, fun h => by simpa [sput] using h4 (by simpa [did] using h), fun h => by simpa [sput] using h5 (by simpa [did] using h), fun h => by simpa [sput] using h6 (by simpa [did] using h), fun h => by simpa [sput] using h7 (by simpa [did] using h), kpw h8, fun h => by simpa [sput] using h9 (by simpa [did] using h), kpw h10, hT⟩
    · as_aux_lemma =>
        have g1 := h1 (by simp [hdep])
        unfold OpSteps
        simp [go_sem, evS, g1]
        refine (HOf.out W (below_nx HB9.out hT)).mono ?_
        rintro e W' ⟨q9, T9, rfl, hS9, hr9, hb⟩
        refine ⟨_, rfl, ?_⟩
        exact ⟨kpw h0, kpw h1, fun _ => ⟨q9, N, T9, by simp [sput], hS9, hr9⟩, kpw h3, fun h => by simpa [sput] using (h4 (by simpa [did] using h)).below hb, fun h => by simpa [sput] using (h5 (by simpa [did] using h)).below hb, fun h => by simpa [sput] using (h6 (by simpa [did] using h)).below hb, fun h => by simpa [sput] using (h7 (by simpa [did] using h)).below hb, kpw h8, fun h => by simpa [sput] using (h9 (by simpa [did] using h)).below hb, kpw h10, below_nx hT hb⟩
    · as_aux_lemma =>
        unfold OpSteps
        obtain ⟨p0, p1, p2, p3⟩ := cells4w (Hx9.out.below hT Hx9.out.lt)
        simp [go_sem, evS, f6, p0, p1, p2, p3]
        exact ⟨kpw h0, kpw h1, fun h => by simpa [sput] using h2 (by simpa [did] using h), fun _ => by simp [sput], fun h => by simpa [sput] using h4 (by simpa [did] using h), fun h => by simpa [sput] using h5 (by simpa [did] using h), fun h => by simpa [sput] using h6 (by simpa [did] using h), fun h => by simpa [sput] using h7 (by simpa [did] using h), kpw h8, fun h => by simpa [sput] using h9 (by simpa [did] using h), kpw h10, hT⟩
    · as_aux_lemma =>
        have g3 := h3 (by simp [hdep])
        unfold OpSteps
        simp [go_sem, evS, g3]
        refine (HLs.out W (below_nx HB9.out hT)).mono ?_
        rintro e W' ⟨B9, d9, rfl, hr9, hb⟩
        refine ⟨_, rfl, ?_⟩
        exact ⟨kpw h0, kpw h1, fun h => by simpa [sput] using (h2 (by simpa [did] using h)).below hb, kpw h3, fun _ => ⟨B9, d9, X1, by simp [sput], rfl, hr9⟩, fun h => by simpa [sput] using (h5 (by simpa [did] using h)).below hb, fun h => by simpa [sput] using (h6 (by simpa [did] using h)).below hb, fun h => by simpa [sput] using (h7 (by simpa [did] using h)).below hb, kpw h8, fun h => by simpa [sput] using (h9 (by simpa [did] using h)).below hb, kpw h10, below_nx hT hb⟩
    · as_aux_lemma =>
        have g0 := h0 (by simp [hdep])
        have g2 := h2 (by simp [hdep])
        have g4 := h4 (by simp [hdep])
        unfold OpSteps
        obtain ⟨A8, a8, X8, gv4, rfl, gR4⟩ := g4
        obtain ⟨q8, c8, T8, gv2, gS2, gR2⟩ := g2
        simp [go_sem, evS, g0, gv2, gv4]
        refine (HRs.out q8 c8 T8 A8 a8 W gS2 gR2 gR4).mono ?_
        rintro e W' ⟨v9, rfl, hP9, hb⟩
        refine ⟨_, rfl, ?_⟩
        exact ⟨kpw h0, kpw h1, fun h => by simpa [sput] using (h2 (by simpa [did] using h)).below hb, kpw h3, fun h => by simpa [sput] using (h4 (by simpa [did] using h)).below hb, fun _ => ⟨v9, by simp [sput], hP9⟩, fun h => by simpa [sput] using (h6 (by simpa [did] using h)).below hb, fun h => by simpa [sput] using (h7 (by simpa [did] using h)).below hb, kpw h8, fun h => by simpa [sput] using (h9 (by simpa [did] using h)).below hb, kpw h10, below_nx hT hb⟩
    · as_aux_lemma =>
        have g5 := h5 (by simp [hdep])
        unfold OpSteps
        obtain ⟨v8, gv5, gP5⟩ := g5
        simp [go_sem, evS, gv5]
        exact ⟨kpw h0, kpw h1, fun h => by simpa [sput] using h2 (by simpa [did] using h), kpw h3, fun h => by simpa [sput] using h4 (by simpa [did] using h), fun h => by simpa [sput] using h5 (by simpa [did] using h), fun _ => ⟨v8, by simp [sput], gP5⟩, fun h => by simpa [sput] using h7 (by simpa [did] using h), kpw h8, fun h => by simpa [sput] using h9 (by simpa [did] using h), kpw h10, hT⟩
    · as_aux_lemma =>
        have g6 := h6 (by simp [hdep])
        unfold OpSteps
        obtain ⟨v8, gv6, gP6⟩ := g6
        simp [go_sem, evS, gv6]
        exact ⟨kpw h0, kpw h1, fun h => by simpa [sput] using h2 (by simpa [did] using h), kpw h3, fun h => by simpa [sput] using h4 (by simpa [did] using h), fun h => by simpa [sput] using h5 (by simpa [did] using h), fun h => by simpa [sput] using h6 (by simpa [did] using h), fun _ => by simpa [sput] using gP6, kpw h8, fun h => by simpa [sput] using h9 (by simpa [did] using h), kpw h10, hT⟩
    · as_aux_lemma =>
        have g6 := h6 (by simp [hdep])
        unfold OpSteps
        obtain ⟨v8, gv6, gP6⟩ := g6
        simp [go_sem, evS, gv6]
        exact ⟨kpw h0, kpw h1, fun h => by simpa [sput] using h2 (by simpa [did] using h), kpw h3, fun h => by simpa [sput] using h4 (by simpa [did] using h), fun h => by simpa [sput] using h5 (by simpa [did] using h), fun h => by simpa [sput] using h6 (by simpa [did] using h), fun h => by simpa [sput] using h7 (by simpa [did] using h), fun _ => by simp [sput], fun h => by simpa [sput] using h9 (by simpa [did] using h), kpw h10, hT⟩
    · as_aux_lemma =>
        have g7 := h7 (by simp [hdep])
        unfold OpSteps
        obtain ⟨B7, d7, Y7, gv7, gY7, gR7⟩ := g7
        simp [go_sem, evS, gv7]
        exact ⟨kpw h0, kpw h1, fun h => by simpa [sput] using h2 (by simpa [did] using h), kpw h3, fun h => by simpa [sput] using h4 (by simpa [did] using h), fun h => by simpa [sput] using h5 (by simpa [did] using h), fun h => by simpa [sput] using h6 (by simpa [did] using h), fun h => by simpa [sput] using h7 (by simpa [did] using h), kpw h8, fun _ => ⟨B7, d7, Y7, by simp [sput], gY7, gR7⟩, kpw h10, hT⟩
    · as_aux_lemma =>
        have g8 := h8 (by simp [hdep])
        unfold OpSteps
        simp [go_sem, evS, g8]
        exact ⟨kpw h0, kpw h1, fun h => by simpa [sput] using h2 (by simpa [did] using h), kpw h3, fun h => by simpa [sput] using h4 (by simpa [did] using h), fun h => by simpa [sput] using h5 (by simpa [did] using h), fun h => by simpa [sput] using h6 (by simpa [did] using h), fun h => by simpa [sput] using h7 (by simpa [did] using h), kpw h8, fun h => by simpa [sput] using h9 (by simpa [did] using h), fun _ => by simp [sput], hT⟩
  intro d s W hJ hd
  obtain ⟨h0, h1, h2, h3, h4, h5, h6, h7, h8, h9, h10, hT⟩ := hJ
  have h9' := h9 (hd 9 (by decide))
  have h10' := h10 (hd 10 (by decide))
  have hb : Below we3.heap.size we3 W := hT
  clear h0 h1 h2 h3 h4 h5 h6 h7 h8 h9 h10 hT hd
  simp [setAll, h10']
  clear h10'
  generalize s 91 = s91
  generalize s 92 = s92
  generalize s 93 = s93
  generalize s 94 = s94
  generalize s 95 = s95
  generalize s 96 = s96
  generalize s 90 = s90
  generalize s 97 = s97
  generalize s 98 = s98
  obtain ⟨B9, d9, y9, hs18, hy9, hR9⟩ := h9'
  have HY9 := Lib.hid hy9
  clear hy9
  simp [hs18]
  clear hs18
  generalize W = wg at *
  have Hm10 := Lib.hid (Hm9.out.nxt hb)
  have Hx10 := Lib.hid (Hx9.out.nxt hb)
  have Hn10 := Lib.hid (Hn9.out.nxt hb)
  have Hp10 := Lib.hid (Hp9.out.nxt hb)
  have Hu10 := Lib.hid (Hu9.out.nxt hb)
  have Hv10 := Lib.hid (Hv9.out.nxt hb)
  have HB10 := Lib.hid (below_nx HB9.out hb)
  clear hb
  clear m0 m1 m2 m3 m4 x0 x1 x2 x3 n0 n1 n2 n3 n4 p0 p1 p2 p3
  obtain ⟨m0, m1, m2, m3, m4⟩ := cells5 Hm10.out
  obtain ⟨x0, x1, x2, x3⟩ := cells4w Hx10.out
  obtain ⟨n0, n1, n2, n3, n4⟩ := cells5 Hn10.out
  obtain ⟨p0, p1, p2, p3⟩ := cells4w Hp10.out
  clear Hm9 Hx9 Hn9 Hp9 Hu9 Hv9 HB9
  have Hr10 := Lib.hid hR9
  clear hR9
  go_wp2_with fail
  refine wp_region_invG [137, 138, 139, 140, 141, 142, 143, 144, 145, 146, 147, 148, 149, 150, 151, 152, 153, 154, 155, 8] (fun d s W => (d 0 = true → s 137 = .pointer (some ⟨pp, 0, none⟩)) ∧ (d 1 = true → s 138 = .slice (some ⟨gp, 0, none⟩) nx cp9) ∧ (d 2 = true → s 139 = .agg #[.slice Ax nx cx, .int .i64 (ox : Int), .int .i64 (R : Int), .int .i64 (ix : Int)]) ∧ (d 3 = true → s 140 = .slice B9 R d9) ∧ (d 4 = true → SlG W (s 141) (TrL lx ox ix R F) nx) ∧ (d 5 = true → s 142 = .bool true) ∧ (d 6 = true → s 143 = .bool true) ∧ (d 7 = true → s 144 = .bool false) ∧ (d 8 = true → s 145 = .bool false) ∧ (d 9 = true → s 146 = .pointer (some ⟨pn, 0, none⟩)) ∧ (d 10 = true → s 147 = .slice (some ⟨gn, 0, none⟩) nm cn) ∧ (d 11 = true → s 148 = .pointer (some ⟨w.heap.size, 0, none⟩)) ∧ (d 12 = true → s 149 = .slice Am nm cm) ∧ (d 13 = true → s 150 = .bool true) ∧ (d 14 = true → s 151 = .bool true) ∧ (d 15 = true → s 152 = .bool true) ∧ (d 16 = true → s 153 = .bool true) ∧ (d 17 = true → s 154 = .bool true) ∧ (d 18 = true → s 155 = .bool true) ∧ (d 19 = true → s 8 = .bool true) ∧ Below wg.heap.size wg W)
    rfl (by kernel_rfl) ?_ ?_ ?_
  · exact ⟨by simp, by simp, by simp, by simp, by simp, by simp, by simp, by simp, by simp, by simp, by simp, by simp, by simp, by simp, by simp, by simp, by simp, by simp, by simp, by simp, (Below.refl _ _).drew⟩
  · refine ⟨?_, ?_, ?_, ?_, ?_, ?_, ?_, ?_, ?_, ?_, ?_, ?_, ?_, ?_, ?_, ?_, ?_, ?_, ?_, ?_, trivial⟩
    all_goals
      intro d s W hJ hfr hd hdep
      simp only [List.mem_cons, forall_eq_or_imp, List.not_mem_nil, false_implies, implies_true, and_true, Region.binds] at hdep
      have f3 := hfr 3 (by decide)
      have f5 := hfr 5 (by decide)
      have f6 := hfr 6 (by decide)
      have f9 := hfr 9 (by decide)
      have f10 := hfr 10 (by decide)
      have f13 := hfr 13 (by decide)
      simp at f3 f5 f6 f9 f10 f13 hdep
      obtain ⟨h0, h1, h2, h3, h4, h5, h6, h7, h8, h9, h10, h11, h12, h13, h14, h15, h16, h17, h18, h19, hT⟩ := hJ
    · as_aux_lemma =>
        refine stepG_plain rfl ?_
        unfold OpSteps
        simp [go_sem, evS, f10]
        exact ⟨fun _ => by simp [sput], kpw h1, kpw h2, kpw h3, fun h => by simpa [sput] using h4 (by simpa [did] using h), kpw h5, kpw h6, kpw h7, kpw h8, kpw h9, kpw h10, kpw h11, kpw h12, kpw h13, kpw h14, kpw h15, kpw h16, kpw h17, kpw h18, kpw h19, hT⟩
    · as_aux_lemma =>
        have g0 := h0 (by simp [hdep])
        refine stepG_plain rfl ?_
        unfold OpSteps
        obtain ⟨p0, p1, p2, p3⟩ := cells4w (Hp10.out.below hT Hp10.out.lt)
        simp [go_sem, evS, g0, p0, p1, p2, p3]
        exact ⟨kpw h0, fun _ => by simp [sput], kpw h2, kpw h3, fun h => by simpa [sput] using h4 (by simpa [did] using h), kpw h5, kpw h6, kpw h7, kpw h8, kpw h9, kpw h10, kpw h11, kpw h12, kpw h13, kpw h14, kpw h15, kpw h16, kpw h17, kpw h18, kpw h19, hT⟩
    · as_aux_lemma =>
        refine stepG_plain rfl ?_
        unfold OpSteps
        obtain ⟨p0, p1, p2, p3⟩ := cells4w (Hx10.out.below hT Hx10.out.lt)
        simp [go_sem, evS, f6, p0, p1, p2, p3]
        exact ⟨kpw h0, kpw h1, fun _ => by simp [sput], kpw h3, fun h => by simpa [sput] using h4 (by simpa [did] using h), kpw h5, kpw h6, kpw h7, kpw h8, kpw h9, kpw h10, kpw h11, kpw h12, kpw h13, kpw h14, kpw h15, kpw h16, kpw h17, kpw h18, kpw h19, hT⟩
    · as_aux_lemma =>
        refine stepG_plain rfl ?_
        unfold OpSteps
        simp [go_sem, evS, f13]
        exact ⟨kpw h0, kpw h1, kpw h2, fun _ => by simp [sput], fun h => by simpa [sput] using h4 (by simpa [did] using h), kpw h5, kpw h6, kpw h7, kpw h8, kpw h9, kpw h10, kpw h11, kpw h12, kpw h13, kpw h14, kpw h15, kpw h16, kpw h17, kpw h18, kpw h19, hT⟩
    · as_aux_lemma =>
        have g2 := h2 (by simp [hdep])
        have g3 := h3 (by simp [hdep])
        refine stepG_plain rfl ?_
        unfold OpSteps
        simp [go_sem, evS, g2, g3]
        refine (HWr.out W B9 d9 y9 (below_nx HB10.out hT) (Hr10.out.below hT) HY9.out).mono ?_
        rintro e W' ⟨B8, d8, z8, rfl, hz8, hr8, hb⟩
        refine ⟨_, rfl, ?_⟩
        exact ⟨kpw h0, kpw h1, kpw h2, kpw h3, fun _ => ⟨B8, d8, z8, by simp [sput], hz8, hr8⟩, kpw h5, kpw h6, kpw h7, kpw h8, kpw h9, kpw h10, kpw h11, kpw h12, kpw h13, kpw h14, kpw h15, kpw h16, kpw h17, kpw h18, kpw h19, below_nx hT hb⟩
    · as_aux_lemma =>
        have g1 := h1 (by simp [hdep])
        have g4 := h4 (by simp [hdep])
        refine stepG_plain rfl ?_
        unfold OpSteps
        obtain ⟨B8, d8, z8, gv4, gS4, gR4⟩ := g4
        simp [go_sem, evS, g1, gv4]
        refine (HFin.out W _ _ _ _ _ _ HI.out gS4 (Hv10.out.row.below hT) gR4).mono ?_
        rintro e W' ⟨rfl, hb⟩
        refine ⟨_, rfl, ?_⟩
        exact ⟨kpw h0, kpw h1, kpw h2, kpw h3, fun h => by simpa [sput] using (h4 (by simpa [did] using h)).below hb, fun _ => by simp [sput], kpw h6, kpw h7, kpw h8, kpw h9, kpw h10, kpw h11, kpw h12, kpw h13, kpw h14, kpw h15, kpw h16, kpw h17, kpw h18, kpw h19, below_nx hT hb⟩
    · as_aux_lemma =>
        have g5 := h5 (by simp [hdep])
        refine stepG_plain rfl ?_
        unfold OpSteps
        simp [go_sem, evS, g5]
        exact ⟨kpw h0, kpw h1, kpw h2, kpw h3, fun h => by simpa [sput] using h4 (by simpa [did] using h), kpw h5, fun _ => by simp [sput], kpw h7, kpw h8, kpw h9, kpw h10, kpw h11, kpw h12, kpw h13, kpw h14, kpw h15, kpw h16, kpw h17, kpw h18, kpw h19, hT⟩
    · as_aux_lemma =>
        have g6 := h6 (by simp [hdep])
        refine stepG_on 6 143 true rfl rfl g6 ?_
        unfold OpSteps
        simp [go_sem, evS, f3, g6]
        exact ⟨kpw h0, kpw h1, kpw h2, kpw h3, fun h => by simpa [sput] using h4 (by simpa [did] using h), kpw h5, kpw h6, fun _ => by simp [sput], kpw h8, kpw h9, kpw h10, kpw h11, kpw h12, kpw h13, kpw h14, kpw h15, kpw h16, kpw h17, kpw h18, kpw h19, hT⟩
    · as_aux_lemma =>
        have g7 := h7 (by simp [hdep])
        have g6 := h6 (by simp [hdep])
        refine stepG_on 6 143 true rfl rfl g6 ?_
        unfold OpSteps
        simp [go_sem, evS, g7, g6]
        exact ⟨kpw h0, kpw h1, kpw h2, kpw h3, fun h => by simpa [sput] using h4 (by simpa [did] using h), kpw h5, kpw h6, kpw h7, fun _ => by simp [sput], kpw h9, kpw h10, kpw h11, kpw h12, kpw h13, kpw h14, kpw h15, kpw h16, kpw h17, kpw h18, kpw h19, hT⟩
    · as_aux_lemma =>
        have g8 := h8 (by simp [hdep])
        refine stepG_on 8 145 false rfl rfl g8 ?_
        unfold OpSteps
        simp [go_sem, evS, f9, g8]
        exact ⟨kpw h0, kpw h1, kpw h2, kpw h3, fun h => by simpa [sput] using h4 (by simpa [did] using h), kpw h5, kpw h6, kpw h7, kpw h8, fun _ => by simp [sput], kpw h10, kpw h11, kpw h12, kpw h13, kpw h14, kpw h15, kpw h16, kpw h17, kpw h18, kpw h19, hT⟩
    · as_aux_lemma =>
        have g9 := h9 (by simp [hdep])
        have g8 := h8 (by simp [hdep])
        refine stepG_on 8 145 false rfl rfl g8 ?_
        unfold OpSteps
        obtain ⟨p0, p1, p2, p3, p4⟩ := cells5 (Hn10.out.below hT Hn10.out.lt)
        simp [go_sem, evS, g9, g8, p0, p1, p2, p3, p4]
        exact ⟨kpw h0, kpw h1, kpw h2, kpw h3, fun h => by simpa [sput] using h4 (by simpa [did] using h), kpw h5, kpw h6, kpw h7, kpw h8, kpw h9, fun _ => by simp [sput], kpw h11, kpw h12, kpw h13, kpw h14, kpw h15, kpw h16, kpw h17, kpw h18, kpw h19, hT⟩
    · as_aux_lemma =>
        have g8 := h8 (by simp [hdep])
        refine stepG_on 8 145 false rfl rfl g8 ?_
        unfold OpSteps
        simp [go_sem, evS, f5, g8]
        exact ⟨kpw h0, kpw h1, kpw h2, kpw h3, fun h => by simpa [sput] using h4 (by simpa [did] using h), kpw h5, kpw h6, kpw h7, kpw h8, kpw h9, kpw h10, fun _ => by simp [sput], kpw h12, kpw h13, kpw h14, kpw h15, kpw h16, kpw h17, kpw h18, kpw h19, hT⟩
    · as_aux_lemma =>
        have g11 := h11 (by simp [hdep])
        have g8 := h8 (by simp [hdep])
        refine stepG_on 8 145 false rfl rfl g8 ?_
        unfold OpSteps
        obtain ⟨p0, p1, p2, p3, p4⟩ := cells5 (Hm10.out.below hT Hm10.out.lt)
        simp [go_sem, evS, g11, g8, p0, p1, p2, p3, p4]
        exact ⟨kpw h0, kpw h1, kpw h2, kpw h3, fun h => by simpa [sput] using h4 (by simpa [did] using h), kpw h5, kpw h6, kpw h7, kpw h8, kpw h9, kpw h10, kpw h11, fun _ => by simp [sput], kpw h13, kpw h14, kpw h15, kpw h16, kpw h17, kpw h18, kpw h19, hT⟩
    · as_aux_lemma =>
        have g10 := h10 (by simp [hdep])
        have g12 := h12 (by simp [hdep])
        have g8 := h8 (by simp [hdep])
        refine stepG_on 8 145 false rfl rfl g8 ?_
        unfold OpSteps
        simp [go_sem, evS, g10, g12, g8]
        refine (HAllm.out W _ _ _ _ (Hu10.out.row.below hT) (HAm.out.below (below_nx HB10.out hT))).mono ?_
        rintro e W' ⟨rfl, hb⟩
        refine ⟨_, rfl, ?_⟩
        exact ⟨kpw h0, kpw h1, kpw h2, kpw h3, fun h => by simpa [sput] using (h4 (by simpa [did] using h)).below hb, kpw h5, kpw h6, kpw h7, kpw h8, kpw h9, kpw h10, kpw h11, kpw h12, fun _ => by simp [sput], kpw h14, kpw h15, kpw h16, kpw h17, kpw h18, kpw h19, below_nx hT hb⟩
    · as_aux_lemma =>
        have g8 := h8 (by simp [hdep])
        have g13 := h13 (by simp [hdep])
        have g6 := h6 (by simp [hdep])
        refine stepG_on 6 143 true rfl rfl g6 ?_
        unfold OpSteps
        simp [go_sem, evS, g8, g13, g6]
        exact ⟨kpw h0, kpw h1, kpw h2, kpw h3, fun h => by simpa [sput] using h4 (by simpa [did] using h), kpw h5, kpw h6, kpw h7, kpw h8, kpw h9, kpw h10, kpw h11, kpw h12, kpw h13, fun _ => by simp [sput], kpw h15, kpw h16, kpw h17, kpw h18, kpw h19, hT⟩
    · as_aux_lemma =>
        have g6 := h6 (by simp [hdep])
        have g14 := h14 (by simp [hdep])
        refine stepG_plain rfl ?_
        unfold OpSteps
        simp [go_sem, evS, g6, g14]
        exact ⟨kpw h0, kpw h1, kpw h2, kpw h3, fun h => by simpa [sput] using h4 (by simpa [did] using h), kpw h5, kpw h6, kpw h7, kpw h8, kpw h9, kpw h10, kpw h11, kpw h12, kpw h13, kpw h14, fun _ => by simp [sput], kpw h16, kpw h17, kpw h18, kpw h19, hT⟩
    · as_aux_lemma =>
        have g15 := h15 (by simp [hdep])
        refine stepG_plain rfl ?_
        unfold OpSteps
        simp [go_sem, evS, g15]
        exact ⟨kpw h0, kpw h1, kpw h2, kpw h3, fun h => by simpa [sput] using h4 (by simpa [did] using h), kpw h5, kpw h6, kpw h7, kpw h8, kpw h9, kpw h10, kpw h11, kpw h12, kpw h13, kpw h14, kpw h15, fun _ => by simp [sput], kpw h17, kpw h18, kpw h19, hT⟩
    · as_aux_lemma =>
        have g16 := h16 (by simp [hdep])
        refine stepG_on 16 153 true rfl rfl g16 ?_
        unfold OpSteps
        simp [go_sem, evS, g16]
        refine (awake9_any W).mono ?_
        rintro e W' ⟨rfl, hb⟩
        refine ⟨_, rfl, ?_⟩
        exact ⟨kpw h0, kpw h1, kpw h2, kpw h3, fun h => by simpa [sput] using (h4 (by simpa [did] using h)).below hb, kpw h5, kpw h6, kpw h7, kpw h8, kpw h9, kpw h10, kpw h11, kpw h12, kpw h13, kpw h14, kpw h15, kpw h16, fun _ => by simp [sput], kpw h18, kpw h19, below_nx hT hb⟩
    · as_aux_lemma =>
        have g16 := h16 (by simp [hdep])
        have g17 := h17 (by simp [hdep])
        refine stepG_plain rfl ?_
        unfold OpSteps
        simp [go_sem, evS, g16, g17]
        exact ⟨kpw h0, kpw h1, kpw h2, kpw h3, fun h => by simpa [sput] using h4 (by simpa [did] using h), kpw h5, kpw h6, kpw h7, kpw h8, kpw h9, kpw h10, kpw h11, kpw h12, kpw h13, kpw h14, kpw h15, kpw h16, kpw h17, fun _ => by simp [sput], kpw h19, hT⟩
    · as_aux_lemma =>
        have g18 := h18 (by simp [hdep])
        refine stepG_plain rfl ?_
        unfold OpSteps
        simp [go_sem, evS, g18]
        exact ⟨kpw h0, kpw h1, kpw h2, kpw h3, fun h => by simpa [sput] using h4 (by simpa [did] using h), kpw h5, kpw h6, kpw h7, kpw h8, kpw h9, kpw h10, kpw h11, kpw h12, kpw h13, kpw h14, kpw h15, kpw h16, kpw h17, kpw h18, fun _ => by simp [sput], hT⟩
  intro d s W hJ hd
  obtain ⟨h0, h1, h2, h3, h4, h5, h6, h7, h8, h9, h10, h11, h12, h13, h14, h15, h16, h17, h18, h19, hT⟩ := hJ
  have hs8 := h19 (hd 19 (by decide))
  have HBe := Lib.hid (below_nx HB10.out hT)
  clear h0 h1 h2 h3 h4 h5 h6 h7 h8 h9 h10 h11 h12 h13 h14 h15 h16 h17 h18 h19 hT hd
  simp [setAll, hs8]
  clear hs8
  go_wp2_with fail
  go_ret
  exact ⟨rfl, HBe.out⟩

end Go.Proofs.Ytlhdcajamempoaa
