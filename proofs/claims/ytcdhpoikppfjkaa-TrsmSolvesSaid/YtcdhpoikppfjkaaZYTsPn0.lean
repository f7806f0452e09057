/-
TrsmSolves, they meet, or 0 on the diagonal. Conditions: as each says.
-/
import Derived.Test.YtcdhpoikppfjkaaWaav
set_option linter.unusedVariables false
set_option linter.unusedSimpArgs false
set_option linter.unnecessarySimpa false
namespace Go.Proofs.Ytcdhpoikppfjkaa
open Go.RowKit
attribute [local go_sem ↓] Go.wp_at_zero Go.wp_at_succ

set_option maxRecDepth 100000 in
set_option maxHeartbeats 4000000 in
theorem tsm_nat0 (kd S : Nat) (hkd : kd = 1 ∨ kd = 2) (hS1 : 1 ≤ S) (Am : Option Addr) (nm cm : Nat) (lm : List Nat) (Ax : Option Addr) (nx cx : Nat) (lx : List Nat) (o R L o2 C L2 : Nat) (one : Bool) (w : World) (hAm : Row w Am (f64s lm)) (hAx : Row w Ax (f64s lx)) (hWm : Wds lm) (hWx : Wds lx) (hlm : lm.length = nm) (hlx : lx.length = nx) (hnm : nm ≤ 1000) (hnx : nx ≤ 1000) (hG : greatB nm (R : Int) (R : Int) = false) (hGx : greatB nx (R : Int) (C : Int) = false) (hv : one = false ∨ (one = true ∧ nm = 0)) (hR : R ≤ 20) (hC : C ≤ 20) (hoI : I64 o) (hLI : I64 L) (ho2I : I64 o2) (hL2I : I64 L2) (hL1 : 1 ≤ L) (hRL : R ≤ L) (hmr : R = 0 ∨ R = 0 ∨ o + (R - 1) * L + (R - 1) < nm) (hL21 : 1 ≤ L2) (hRL2 : R ≤ L2) (hxr : R = 0 ∨ C = 0 ∨ o2 + (C - 1) * L2 + (R - 1) < nx) (bz sp : Bool) (hz : (!trHZ kd (fun i k => lm.getD (o + i + k * L) 0) R) = bz) (E : Int) (hE : bz = false ∧ E = 4) (hPr : ∀ W (g cg gx cx9 : Nat) (h1 : gx ≠ g) (hO : Own W g lm) (hX : Own W gx lx) , Calls Try.prog 8 #[.int .i64 (kd : Int), .int .i64 (S : Int), mat (some ⟨g, 0, none⟩) nm cg o R R L, mat (some ⟨gx, 0, none⟩) nx cx9 o2 R C L2] W fun e w' => e = .returned (.int .i64 E) ∧ Below W.heap.size W w') :
    Calls Try.prog 3 #[.int .i64 (kd : Int), .int .i64 (S : Int), mat Am nm cm o R R L, mat Ax nx cx o2 R C L2, .bool one] w fun e w' => e = .returned (.bool true) ∧ Below w.heap.size w w' := by
  have hRI : I64 (R : Int) := by unfold I64; omega
  have hCI : I64 (C : Int) := by unfold I64; omega
  have HGr := Lib.hid (fun W => great_any Am nm cm o R R L W)
  have HGs := Lib.hid (fun W => great_any Ax nx cx o2 R C L2 W)
  rw [hG] at HGr
  rw [hGx] at HGs
  have HApm := Lib.hid (apart_c Am nm cm lm o R R L w hAm hlm (by omega))
  have HApx := Lib.hid (apart_c Ax nx cx lx o2 R C L2 w hAx hlx (by omega))
  have HGm := Lib.hid (fun W => rgood_any Am nm cm o R R L W (by omega) hoI hRI hRI hLI)
  have HGy := Lib.hid (fun W => rgood_any Ax nx cx o2 R C L2 W (by omega) ho2I hRI hCI hL2I)
  have HAllm := Lib.hid (all_c lm nm hWm hlm (by omega))
  have HAllx := Lib.hid (all_c lx nx hWx hlx (by omega))
  have HAw := Lib.hid (fun W => awake14_any W)
  have HPr := Lib.hid hPr
  rw [mat_right hL1 hRL hmr] at HGm
  rw [mat_right hL21 hRL2 hxr] at HGy
  obtain ⟨NM, hNM⟩ : ∃ N, R * R = N := ⟨_, rfl⟩
  obtain ⟨N, hN⟩ : ∃ N, R * C = N := ⟨_, rfl⟩
  have hNb : NM ≤ 400 ∧ N ≤ 400 := by
    have h1 : R * R ≤ 20 * 20 := Nat.mul_le_mul hR hR
    have h2 : R * C ≤ 20 * 20 := Nat.mul_le_mul hR hC
    omega
  have HOfm := Lib.hid (fun W (hb : Below w.heap.size w W) => show Calls Try.prog 11 #[mat Am nm cm o R R L] W fun e w' => ∃ g T, e = .returned (tbl R R g NM NM) ∧ Tab lm o R R L NM T ∧ Row w' (some ⟨g, 0, none⟩) (f64s T) ∧ Below W.heap.size W w' from by
    refine (rof_any Am nm cm lm o R R L NM W (hAm.below hb) hlm (by omega) hNM (by omega) (by omega) (by omega) hmr).mono ?_
    rintro e w' ⟨g', T, e1, e2, e3, _, e4⟩
    exact ⟨g', T, e1, e2, e3, e4⟩)
  have HOfx := Lib.hid (fun W (hb : Below w.heap.size w W) => show Calls Try.prog 11 #[mat Ax nx cx o2 R C L2] W fun e w' => ∃ g T, e = .returned (tbl R C g N N) ∧ Tab lx o2 R C L2 N T ∧ Row w' (some ⟨g, 0, none⟩) (f64s T) ∧ Below W.heap.size W w' from by
    refine (rof_any Ax nx cx lx o2 R C L2 N W (hAx.below hb) hlx (by omega) hN (by omega) (by omega) (by omega) hxr).mono ?_
    rintro e w' ⟨g', T, e1, e2, e3, _, e4⟩
    exact ⟨g', T, e1, e2, e3, e4⟩)
  have hag : ∀ T, Tab lm o R R L NM T → ∀ p, p < R → ∀ q, q < R → T.getD (p * R + q) 0 = (fun i k => lm.getD (o + i + k * L) 0) p q := fun T hT p hp q hq => tab_get hT hNM hp hq
  have hSE : ∀ j, ∃ E F, TrS kd R (trV kd (fun i k => lm.getD (o + i + k * L) 0)) (fun p => lx.getD (o2 + p + j * L2) 0) E F := fun j => trS_exists kd R _ _ (by rcases hkd with h | h <;> simp [h])
  have HRs := Lib.hid (fun (g1 c1 g2 c2 : Nat) (T1 T2 : List Nat) W (h1 : Tab lm o R R L NM T1) (h2 : Tab lx o2 R C L2 N T2) (r1 : Row W (some ⟨g1, 0, none⟩) (f64s T1)) (r2 : Row W (some ⟨g2, 0, none⟩) (f64s T2)) => show Calls Try.prog 10 #[.int .i64 (kd : Int), tbl R R g1 NM c1, tbl R C g2 N c2] W fun e w' => ∃ g c T', e = .returned (.tuple #[tbl R C g N c, .bool bz]) ∧ (TsTl N) T' ∧ Own w' g T' ∧ Below W.heap.size W w' from by
    have l1 : T1.length = NM := by rw [h1.1, hNM]
    refine (rtsm_any kd hkd R C g1 NM c1 T1 g2 N c2 T2 (fun j => (hSE j).choose) (fun j => (hSE j).choose_spec.choose) bz W r1 l1 hNM r2 (by rw [h2.1, hN]) hN (by omega) (by omega) (by omega) (by omega) (tab_wdse h1 hNM hWm) (tab_wdse h2 hN hWx) (fun h0 => row_ltg r1 l1 h0)
      (fun j hj => (hSE j).choose_spec.choose_spec.agree (by rcases hkd with h | h <;> simp [h]) (fun p hp q hq => (trV_agree (hag T1 h1) p hp q hq).symm) (fun p hp => (tab_get h2 hN hp hj).symm)) (by rw [trHZ_agree (hag T1 h1)]; exact hz)).mono ?_
    rintro e w' ⟨g', c', T', e1, ⟨q1, q2⟩, e3, _, e5⟩
    exact ⟨g', c', T', e1, q1, e3, e5⟩)
  have HMs := Lib.hid (fun W => mspan_any Am nm cm o R R L W (by omega) (by omega) (by omega) hmr)
  have HMx := Lib.hid (fun W => mspan_any Ax nx cx o2 R C L2 W (by omega) (by omega) (by omega) hxr)
  obtain ⟨x1, hx1⟩ : ∃ z, msA o2 R C = z := ⟨_, rfl⟩
  obtain ⟨x2, hx2⟩ : ∃ z, msB o2 R C L2 = z := ⟨_, rfl⟩
  obtain ⟨m1, hm1⟩ : ∃ z, msA o R R = z := ⟨_, rfl⟩
  obtain ⟨m2, hm2⟩ : ∃ z, msB o R R L = z := ⟨_, rfl⟩
  rw [hx1, hx2] at HMx
  rw [hm1, hm2] at HMs
  have e1 : decide ((kd : Int) < 1) = false := decide_eq_false (by omega)
  have e2 : decide ((2 : Int) < (kd : Int)) = false := decide_eq_false (by omega)
  have e3 : decide ((S : Int) < 1) = false := decide_eq_false (by omega)
  have tR : ((R : Int) == (R : Int)) = true := by simp
  have tR' : ((R : Int) != (R : Int)) = false := by simp
  have HAm := Lib.hid hAm
  have HAx := Lib.hid hAx
  clear hAm hAx hWm hWx hlm hlx hnm hnx hG hGx hPr hkd hS1 hR hC hoI hLI ho2I hL2I hL1 hRL hmr hL21 hRL2 hxr hRI hCI hNM hN hNb hag hx1 hx2 hm1 hm2 hz hSE
  unfold mat tbl at *
  rcases hv with rfl | ⟨rfl, hn0⟩
  all_goals as_aux_lemma =>
    first | (have d1 : decide ((0 : Int) < (nm : Int)) = false := (by rw [hn0]; rfl); have d2 : decide (0 < nm) = false := (by rw [hn0]; rfl); clear hn0) | skip
    go_enter Try.func3, Try.ntmps3
    have Hm0 := Lib.hid ((Blk.new w 24 #[.slice Am nm cm, .int .i64 (o : Int), .int .i64 (R : Int), .int .i64 (R : Int), .int .i64 (L : Int)]).alloc (.cells #[.slice Ax nx cx, .int .i64 (o2 : Int), .int .i64 (R : Int), .int .i64 (C : Int), .int .i64 (L2 : Int)] 24))
    have Hx0 := Lib.hid (Blk.new_ (w.alloc (.cells #[.slice Am nm cm, .int .i64 (o : Int), .int .i64 (R : Int), .int .i64 (R : Int), .int .i64 (L : Int)] 24)) 24 #[.slice Ax nx cx, .int .i64 (o2 : Int), .int .i64 (R : Int), .int .i64 (C : Int), .int .i64 (L2 : Int)] (w.heap.size + 1) (by simp))
    have HB0 := Lib.hid (((Below.refl w.heap.size w).alloc (Nat.le_refl _) (.cells #[.slice Am nm cm, .int .i64 (o : Int), .int .i64 (R : Int), .int .i64 (R : Int), .int .i64 (L : Int)] 24)).alloc (by simp) (.cells #[.slice Ax nx cx, .int .i64 (o2 : Int), .int .i64 (R : Int), .int .i64 (C : Int), .int .i64 (L2 : Int)] 24))
    obtain ⟨m0, m1, m2, m3, m4⟩ := cells5 Hm0.out
    obtain ⟨x0, x1, x2, x3, x4⟩ := cells5 Hx0.out
    go_wp2_with fail
    refine (HAw.out _).mono ?_
    rintro e w1 ⟨rfl, hb⟩
    have Hm1 := Lib.hid (Hm0.out.nxt hb)
    have Hx1 := Lib.hid (Hx0.out.nxt hb)
    have HB1 := Lib.hid (below_nx HB0.out hb)
    clear hb
    clear m0 m1 m2 m3 m4 x0 x1 x2 x3 x4
    obtain ⟨m0, m1, m2, m3, m4⟩ := cells5 Hm1.out
    obtain ⟨x0, x1, x2, x3, x4⟩ := cells5 Hx1.out
    clear Hm0 Hx0 HB0
    go_wp2_with fail
    refine (HGr.out _).mono ?_
    rintro e w2 ⟨rfl, hb⟩
    have Hm2 := Lib.hid (Hm1.out.nxt hb)
    have Hx2 := Lib.hid (Hx1.out.nxt hb)
    have HB2 := Lib.hid (below_nx HB1.out hb)
    clear hb
    clear m0 m1 m2 m3 m4 x0 x1 x2 x3 x4
    obtain ⟨m0, m1, m2, m3, m4⟩ := cells5 Hm2.out
    obtain ⟨x0, x1, x2, x3, x4⟩ := cells5 Hx2.out
    clear Hm1 Hx1 HB1
    go_wp2_with fail
    refine (HGs.out _).mono ?_
    rintro e w3 ⟨rfl, hb⟩
    have Hm3 := Lib.hid (Hm2.out.nxt hb)
    have Hx3 := Lib.hid (Hx2.out.nxt hb)
    have HB3 := Lib.hid (below_nx HB2.out hb)
    clear hb
    clear m0 m1 m2 m3 m4 x0 x1 x2 x3 x4
    obtain ⟨m0, m1, m2, m3, m4⟩ := cells5 Hm3.out
    obtain ⟨x0, x1, x2, x3, x4⟩ := cells5 Hx3.out
    clear Hm2 Hx2 HB2
    go_wp2_with fail
    refine wp_region_inv [42, 43, 44, 45, 11, 12] (fun d s W => (d 0 = true → s 42 = .agg #[.slice Am nm cm, .int .i64 (o : Int), .int .i64 (R : Int), .int .i64 (R : Int), .int .i64 (L : Int)]) ∧ (d 1 = true → OwM W (s 43) w3.heap.size lm nm (o : Int) (R : Int) (R : Int) (L : Int)) ∧ (d 2 = true → s 44 = .agg #[.slice Ax nx cx, .int .i64 (o2 : Int), .int .i64 (R : Int), .int .i64 (C : Int), .int .i64 (L2 : Int)]) ∧ (d 3 = true → OwM W (s 45) w3.heap.size lx nx (o2 : Int) (R : Int) (C : Int) (L2 : Int)) ∧ (d 4 = true → NbM W (s 11) w3.heap.size) ∧ (d 5 = true → NbM W (s 12) w3.heap.size) ∧ (d 6 = true → PqM W (s 11) (lb (s 43)) w3.heap.size lm nm (o : Int) (R : Int) (R : Int) (L : Int)) ∧ (d 7 = true → PqM W (s 12) (lb (s 45)) w3.heap.size lx nx (o2 : Int) (R : Int) (C : Int) (L2 : Int)) ∧ (d 6 = true → d 4 = true) ∧ (d 7 = true → d 5 = true) ∧ (d 4 = true → d 5 = true → s 11 ≠ s 12) ∧ (d 1 = true → d 3 = true → lb (s 43) ≠ lb (s 45)) ∧ (d 6 = true → d 1 = true) ∧ (d 7 = true → d 3 = true) ∧ Below w3.heap.size w3 W)
      rfl (by kernel_rfl) ?_ ?_ ?_
    · exact ⟨by simp, by simp, by simp, by simp, by simp, by simp, by simp, by simp, by simp, by simp, by simp, by simp, by simp, by simp, (Below.refl _ _).drew⟩
    · refine ⟨?_, ?_, ?_, ?_, ?_, ?_, ?_, ?_, trivial⟩
      all_goals
        intro d s W hJ hfr hd hdep
        simp only [List.mem_cons, forall_eq_or_imp, List.not_mem_nil, false_implies, implies_true, and_true, Region.binds] at hdep
        have f7 := hfr 7 (by decide)
        have f8 := hfr 8 (by decide)
        simp at f7 f8 hdep
        obtain ⟨h0, h1, h2, h3, h4, h5, h6, h7, x0, x1, x2, x3, x4, x5, hT⟩ := hJ
      · as_aux_lemma =>
          unfold OpSteps
          obtain ⟨p0, p1, p2, p3, p4⟩ := cells5 (Hm3.out.below hT Hm3.out.lt)
          simp [go_sem, evS, f7, p0, p1, p2, p3, p4]
          exact ⟨fun _ => by simp [sput], fun h => by simpa [sput] using h1 (by simpa [did] using h), kpw h2, fun h => by simpa [sput] using h3 (by simpa [did] using h), fun h => by simpa [sput] using h4 (by simpa [did] using h), fun h => by simpa [sput] using h5 (by simpa [did] using h), fun h => by simpa [sput] using h6 (by simpa [did] using h), fun h => by simpa [sput] using h7 (by simpa [did] using h), by simpa [sput, did] using x0, by simpa [sput, did] using x1, by simpa [sput, did] using x2, by simpa [sput, did] using x3, by simpa [sput, did] using x4, by simpa [sput, did] using x5, hT⟩
      · as_aux_lemma =>
          have g0 := h0 (by simp [hdep])
          unfold OpSteps
          simp [go_sem, evS, g0]
          refine (HApm.out W (below_nx HB3.out hT)).mono ?_
          rintro e W' ⟨g9, c9, rfl, ho, hg, hb⟩
          refine ⟨_, rfl, ?_⟩
          exact ⟨kpw h0, fun _ => ⟨g9, c9, by simp [sput], ho, Nat.le_trans hT.size hg⟩, kpw h2, fun h => by simpa [sput] using (h3 (by simpa [did] using h)).below hb, fun h => by simpa [sput] using (h4 (by simpa [did] using h)).below hb, fun h => by simpa [sput] using (h5 (by simpa [did] using h)).below hb, fun h => by have := x4 (by simpa [did] using h); simp [hd] at this, fun h => by simpa [sput] using (h7 (by simpa [did] using h)).below hb, by simpa [sput, did] using x0, by simpa [sput, did] using x1, by simpa [sput, did] using x2, fun _ e3 => by have hq := (h3 (by simpa [did] using e3)).lb_lt; simp [sput, lb_mat]; omega, fun _ => by simp [did], by simpa [sput, did] using x5, below_nx hT hb⟩
      · as_aux_lemma =>
          unfold OpSteps
          obtain ⟨p0, p1, p2, p3, p4⟩ := cells5 (Hx3.out.below hT Hx3.out.lt)
          simp [go_sem, evS, f8, p0, p1, p2, p3, p4]
          exact ⟨kpw h0, fun h => by simpa [sput] using h1 (by simpa [did] using h), fun _ => by simp [sput], fun h => by simpa [sput] using h3 (by simpa [did] using h), fun h => by simpa [sput] using h4 (by simpa [did] using h), fun h => by simpa [sput] using h5 (by simpa [did] using h), fun h => by simpa [sput] using h6 (by simpa [did] using h), fun h => by simpa [sput] using h7 (by simpa [did] using h), by simpa [sput, did] using x0, by simpa [sput, did] using x1, by simpa [sput, did] using x2, by simpa [sput, did] using x3, by simpa [sput, did] using x4, by simpa [sput, did] using x5, hT⟩
      · as_aux_lemma =>
          have g2 := h2 (by simp [hdep])
          unfold OpSteps
          simp [go_sem, evS, g2]
          refine (HApx.out W (below_nx HB3.out hT)).mono ?_
          rintro e W' ⟨g9, c9, rfl, ho, hg, hb⟩
          refine ⟨_, rfl, ?_⟩
          exact ⟨kpw h0, fun h => by simpa [sput] using (h1 (by simpa [did] using h)).below hb, kpw h2, fun _ => ⟨g9, c9, by simp [sput], ho, Nat.le_trans hT.size hg⟩, fun h => by simpa [sput] using (h4 (by simpa [did] using h)).below hb, fun h => by simpa [sput] using (h5 (by simpa [did] using h)).below hb, fun h => by simpa [sput] using (h6 (by simpa [did] using h)).below hb, fun h => by have := x5 (by simpa [did] using h); simp [hd] at this, by simpa [sput, did] using x0, by simpa [sput, did] using x1, by simpa [sput, did] using x2, fun e1 _ => by have hq := (h1 (by simpa [did] using e1)).lb_lt; simp [sput, lb_mat]; omega, by simpa [sput, did] using x4, fun _ => by simp [did], below_nx hT hb⟩
      · as_aux_lemma =>
          unfold OpSteps
          simp [go_sem, evS]
          exact ⟨kpw h0, fun h => by simpa [sput] using (h1 (by simpa [did] using h)).below below_one, kpw h2, fun h => by simpa [sput] using (h3 (by simpa [did] using h)).below below_one, fun _ => ⟨W.heap.size, _, _, _, _, _, by simp [sput], Blk.new W _ _, hT.size⟩, fun h => by simpa [sput] using (h5 (by simpa [did] using h)).below below_one, fun h => by have := x0 (by simpa [did] using h); simp [hd] at this, fun h => by simpa [sput] using (h7 (by simpa [did] using h)).below below_one, fun _ => by simp [did], by simpa [sput, did] using x1, fun _ e8 => by have hq := (h5 (by simpa [did] using e8)).new_ne; simp [sput]; exact fun e => hq e.symm, by simpa [sput, did] using x3, by simpa [sput, did] using x4, by simpa [sput, did] using x5, below_al hT⟩
      · as_aux_lemma =>
          unfold OpSteps
          simp [go_sem, evS]
          exact ⟨kpw h0, fun h => by simpa [sput] using (h1 (by simpa [did] using h)).below below_one, kpw h2, fun h => by simpa [sput] using (h3 (by simpa [did] using h)).below below_one, fun h => by simpa [sput] using (h4 (by simpa [did] using h)).below below_one, fun _ => ⟨W.heap.size, _, _, _, _, _, by simp [sput], Blk.new W _ _, hT.size⟩, fun h => by simpa [sput] using (h6 (by simpa [did] using h)).below below_one, fun h => by have := x1 (by simpa [did] using h); simp [hd] at this, by simpa [sput, did] using x0, fun _ => by simp [did], fun e7 _ => by have hq := (h4 (by simpa [did] using e7)).new_ne; simp [sput]; exact hq, by simpa [sput, did] using x3, by simpa [sput, did] using x4, by simpa [sput, did] using x5, below_al hT⟩
      · as_aux_lemma =>
          have g4 := h4 (by simp [hdep])
          have g1 := h1 (by simp [hdep])
          unfold OpSteps
          obtain ⟨p9, z0, z1, z2, z3, z4, gp, hB9, hlo⟩ := g4
          obtain ⟨g9, c9, gv, gO, gz⟩ := g1
          have e7 : d 4 = true := by simp [hdep]
          obtain ⟨fr0, fr1, fr2, fr3, fr4⟩ := frozen5w hB9
          obtain ⟨k0, k1, k2, k3, k4⟩ := cells5 hB9
          have hfar : ∀ k9, k9 ≠ p9 → _ := fun k9 (hk9 : k9 ≠ p9) => heap_sets5 (w := W) hk9 (.slice (some ⟨g9, 0, none⟩) nm c9) (.int .i64 (o : Int)) (.int .i64 (R : Int)) (.int .i64 (R : Int)) (.int .i64 (L : Int))
          simp [go_sem, evS, gp, gv, fr0, fr1, fr2, fr3, fr4, k0, k1, k2, k3, k4]
          exact ⟨kpw h0, fun h => by simpa [sput] using (h1 (by simpa [did] using h)).far hB9 (by decide) hfar, kpw h2, fun h => by simpa [sput] using (h3 (by simpa [did] using h)).far hB9 (by decide) hfar, fun h => ⟨p9, _, _, _, _, _, by simpa [sput] using gp, Blk.store5 hB9 _ _ _ _ _, hlo⟩, fun h => by simpa [sput] using (h5 (by simpa [did] using h)).far (fun e => x2 e7 (by simpa [did] using h) (gp.trans e.symm)) hfar, fun _ => by simp only [sput, gv, lb_mat]; exact ⟨p9, c9, by simpa using gp, Blk.store5 hB9 _ _ _ _ _, own_off gO (own_ne gO hB9 (by decide)) hfar, hlo, gz⟩, fun h => by simpa [sput] using (h7 (by simpa [did] using h)).far hB9 (by decide) (fun e => x2 e7 (x1 (by simpa [did] using h)) (gp.trans e.symm)) hfar, fun _ => by simp [did, hdep], by simpa [sput, did] using x1, by simpa [sput, did] using x2, by simpa [sput, did] using x3, fun _ => by simp [did, hdep], by simpa [sput, did] using x5, below_sets5 hT hlo _ _ _ _ _⟩
      · as_aux_lemma =>
          have g5 := h5 (by simp [hdep])
          have g3 := h3 (by simp [hdep])
          unfold OpSteps
          obtain ⟨p9, z0, z1, z2, z3, z4, gp, hB9, hlo⟩ := g5
          obtain ⟨g9, c9, gv, gO, gz⟩ := g3
          have e7 : d 5 = true := by simp [hdep]
          obtain ⟨fr0, fr1, fr2, fr3, fr4⟩ := frozen5w hB9
          obtain ⟨k0, k1, k2, k3, k4⟩ := cells5 hB9
          have hfar : ∀ k9, k9 ≠ p9 → _ := fun k9 (hk9 : k9 ≠ p9) => heap_sets5 (w := W) hk9 (.slice (some ⟨g9, 0, none⟩) nx c9) (.int .i64 (o2 : Int)) (.int .i64 (R : Int)) (.int .i64 (C : Int)) (.int .i64 (L2 : Int))
          simp [go_sem, evS, gp, gv, fr0, fr1, fr2, fr3, fr4, k0, k1, k2, k3, k4]
          exact ⟨kpw h0, fun h => by simpa [sput] using (h1 (by simpa [did] using h)).far hB9 (by decide) hfar, kpw h2, fun h => by simpa [sput] using (h3 (by simpa [did] using h)).far hB9 (by decide) hfar, fun h => by simpa [sput] using (h4 (by simpa [did] using h)).far (fun e => x2 (by simpa [did] using h) e7 (e.trans gp.symm)) hfar, fun h => ⟨p9, _, _, _, _, _, by simpa [sput] using gp, Blk.store5 hB9 _ _ _ _ _, hlo⟩, fun h => by simpa [sput] using (h6 (by simpa [did] using h)).far hB9 (by decide) (fun e => x2 (x0 (by simpa [did] using h)) e7 (e.trans gp.symm)) hfar, fun _ => by simp only [sput, gv, lb_mat]; exact ⟨p9, c9, by simpa using gp, Blk.store5 hB9 _ _ _ _ _, own_off gO (own_ne gO hB9 (by decide)) hfar, hlo, gz⟩, by simpa [sput, did] using x0, fun _ => by simp [did, hdep], by simpa [sput, did] using x2, by simpa [sput, did] using x3, by simpa [sput, did] using x4, fun _ => by simp [did, hdep], below_sets5 hT hlo _ _ _ _ _⟩
    intro d s W hJ hd
    obtain ⟨h0, h1, h2, h3, h4, h5, h6, h7, x0, x1, x2, x3, x4, x5, hT⟩ := hJ
    have hgx := x3 (hd 1 (by decide)) (hd 3 (by decide))
    have h6' := h6 (hd 6 (by decide))
    have h7' := h7 (hd 7 (by decide))
    have hpx := x2 (hd 4 (by decide)) (hd 5 (by decide))
    clear h0 h1 h2 h3 h4 h5 h6 h7 x0 x1 x2 x3 x4 x5 hd
    generalize lb (s 43) = gn at *
    generalize lb (s 45) = gp at *
    obtain ⟨pn, cn, hs11, hBn, hOn, hnl, hgl⟩ := h6'
    obtain ⟨pp, cp9, hs12, hBp, hOp, hpl, hgl2⟩ := h7'
    have hnp : pn ≠ pp := fun e => hpx (by rw [hs11, hs12, e])
    have hb : Below w3.heap.size w3 W := hT
    clear hpx hT
    simp [setAll, hs11, hs12]
    clear hs11 hs12
    generalize s 42 = s42
    generalize s 43 = s43
    generalize s 44 = s44
    generalize s 45 = s45
    have hy5 : w.heap.size + 1 < w3.heap.size := Hx3.out.lt
    have HNe := Lib.hid (show gp ≠ gn ∧ pn ≠ pp ∧ w.heap.size + 1 < pn ∧ w.heap.size + 1 < pp ∧ w.heap.size + 1 < gn ∧ w.heap.size + 1 < gp from by refine ⟨fun e => hgx e.symm, hnp, by omega, by omega, by omega, by omega⟩)
    clear hy5 hnp hgx hnl hgl hpl hgl2
    generalize hW6 : W = w6 at *
    clear hW6
    have Hm4 := Lib.hid (Hm3.out.nxt hb)
    have Hx4 := Lib.hid (Hx3.out.nxt hb)
    have HB4 := Lib.hid (below_nx HB3.out hb)
    clear hb
    clear m0 m1 m2 m3 m4 x0 x1 x2 x3 x4
    obtain ⟨m0, m1, m2, m3, m4⟩ := cells5 Hm4.out
    obtain ⟨x0, x1, x2, x3, x4⟩ := cells5 Hx4.out
    clear Hm3 Hx3 HB3
    have Hn4 := Lib.hid hBn
    have Hp4 := Lib.hid hBp
    have Hu4 := Lib.hid hOn
    have Hv4 := Lib.hid hOp
    clear hBn hBp hOn hOp
    clear m0 m1 m2 m3 m4 x0 x1 x2 x3 x4
    clear HApm HApx HGr HGs
    obtain ⟨m0, m1, m2, m3, m4⟩ := cells5 Hm4.out
    obtain ⟨x0, x1, x2, x3, x4⟩ := cells5 Hx4.out
    obtain ⟨n0, n1, n2, n3, n4⟩ := cells5 Hn4.out
    obtain ⟨p0, p1, p2, p3, p4⟩ := cells5 Hp4.out
    go_wp2_with fail
    refine (HPr.out _ gn cn gp cp9 HNe.out.1 Hu4.out Hv4.out).mono ?_
    rintro e w8 ⟨rfl, hb⟩
    have Hm5 := Lib.hid (Hm4.out.nxt hb)
    have Hx5 := Lib.hid (Hx4.out.nxt hb)
    have Hn5 := Lib.hid (Hn4.out.nxt hb)
    have Hp5 := Lib.hid (Hp4.out.nxt hb)
    have Hu5 := Lib.hid (Hu4.out.nxt hb)
    have Hv5 := Lib.hid (Hv4.out.nxt hb)
    have HB5 := Lib.hid (below_nx HB4.out hb)
    clear hb
    clear m0 m1 m2 m3 m4 x0 x1 x2 x3 x4 n0 n1 n2 n3 n4 p0 p1 p2 p3 p4
    obtain ⟨m0, m1, m2, m3, m4⟩ := cells5 Hm5.out
    obtain ⟨x0, x1, x2, x3, x4⟩ := cells5 Hx5.out
    obtain ⟨n0, n1, n2, n3, n4⟩ := cells5 Hn5.out
    obtain ⟨p0, p1, p2, p3, p4⟩ := cells5 Hp5.out
    clear Hm4 Hx4 Hn4 Hp4 Hu4 Hv4 HB4
    clear HPr
    go_upto_region 14 with fail
    have HLt := Lib.hid (show pn < w8.heap.size ∧ pp < w8.heap.size from ⟨Hn5.out.lt, Hp5.out.lt⟩)
    have hba := below_one (W := w8) (o := (.cells #[.int .i64 0, .int .i64 0, .slice none 0 0] 31))
    have HTn := Lib.hid (Blk.new w8 31 #[.int .i64 0, .int .i64 0, .slice none 0 0])
    have Hm6 := Lib.hid (Hm5.out.nxt hba)
    have Hx6 := Lib.hid (Hx5.out.nxt hba)
    have Hn6 := Lib.hid (Hn5.out.nxt hba)
    have Hp6 := Lib.hid (Hp5.out.nxt hba)
    have Hu6 := Lib.hid (Hu5.out.nxt hba)
    have Hv6 := Lib.hid (Hv5.out.nxt hba)
    have HB6 := Lib.hid (below_nx HB5.out hba)
    clear hba
    clear m0 m1 m2 m3 m4 x0 x1 x2 x3 x4 n0 n1 n2 n3 n4 p0 p1 p2 p3 p4
    obtain ⟨m0, m1, m2, m3, m4⟩ := cells5 Hm6.out
    obtain ⟨x0, x1, x2, x3, x4⟩ := cells5 Hx6.out
    obtain ⟨n0, n1, n2, n3, n4⟩ := cells5 Hn6.out
    obtain ⟨p0, p1, p2, p3, p4⟩ := cells5 Hp6.out
    clear Hm5 Hx5 Hn5 Hp5 Hu5 Hv5 HB5
    clear m0 m1 m2 m3 m4 x0 x1 x2 x3 x4 n0 n1 n2 n3 n4 p0 p1 p2 p3 p4
    have HZt := Lib.hid (show pn < w8.heap.size ∧ pp < w8.heap.size ∧ w.heap.size + 1 < w8.heap.size from by have h1 := Hn6.out.lt; have h2 := HNe.out; have h3 := HTn.out.lt; simp at h1 h3; exact ⟨HLt.out.1, HLt.out.2, by omega⟩)
    generalize hzs : w8.heap.size = zt at *
    generalize w8.alloc (.cells #[.int .i64 0, .int .i64 0, .slice none 0 0] 31) = wz at *
    clear hzs HLt
    have Ht6 := HTn
    clear HTn
    obtain ⟨m0, m1, m2, m3, m4⟩ := cells5 Hm6.out
    obtain ⟨x0, x1, x2, x3, x4⟩ := cells5 Hx6.out
    obtain ⟨n0, n1, n2, n3, n4⟩ := cells5 Hn6.out
    obtain ⟨p0, p1, p2, p3, p4⟩ := cells5 Hp6.out
    obtain ⟨t0, t1, t2⟩ := cells3v Ht6.out
    go_wp2_with fail
    refine (HGm.out _).mono ?_
    rintro e we0 ⟨rfl, hb⟩
    have Hm7 := Lib.hid (Hm6.out.nxt hb)
    have Hx7 := Lib.hid (Hx6.out.nxt hb)
    have Hn7 := Lib.hid (Hn6.out.nxt hb)
    have Hp7 := Lib.hid (Hp6.out.nxt hb)
    have Ht7 := Lib.hid (Ht6.out.nxt hb)
    have Hu7 := Lib.hid (Hu6.out.nxt hb)
    have Hv7 := Lib.hid (Hv6.out.nxt hb)
    have HB7 := Lib.hid (below_nx HB6.out hb)
    clear hb
    clear m0 m1 m2 m3 m4 x0 x1 x2 x3 x4 n0 n1 n2 n3 n4 p0 p1 p2 p3 p4 t0 t1 t2
    obtain ⟨m0, m1, m2, m3, m4⟩ := cells5 Hm7.out
    obtain ⟨x0, x1, x2, x3, x4⟩ := cells5 Hx7.out
    obtain ⟨n0, n1, n2, n3, n4⟩ := cells5 Hn7.out
    obtain ⟨p0, p1, p2, p3, p4⟩ := cells5 Hp7.out
    obtain ⟨t0, t1, t2⟩ := cells3v Ht7.out
    clear Hm6 Hx6 Hn6 Hp6 Ht6 Hu6 Hv6 HB6
    go_wp2_with fail
    refine (HGy.out _).mono ?_
    rintro e we1 ⟨rfl, hb⟩
    have Hm8 := Lib.hid (Hm7.out.nxt hb)
    have Hx8 := Lib.hid (Hx7.out.nxt hb)
    have Hn8 := Lib.hid (Hn7.out.nxt hb)
    have Hp8 := Lib.hid (Hp7.out.nxt hb)
    have Ht8 := Lib.hid (Ht7.out.nxt hb)
    have Hu8 := Lib.hid (Hu7.out.nxt hb)
    have Hv8 := Lib.hid (Hv7.out.nxt hb)
    have HB8 := Lib.hid (below_nx HB7.out hb)
    clear hb
    clear m0 m1 m2 m3 m4 x0 x1 x2 x3 x4 n0 n1 n2 n3 n4 p0 p1 p2 p3 p4 t0 t1 t2
    obtain ⟨m0, m1, m2, m3, m4⟩ := cells5 Hm8.out
    obtain ⟨x0, x1, x2, x3, x4⟩ := cells5 Hx8.out
    obtain ⟨n0, n1, n2, n3, n4⟩ := cells5 Hn8.out
    obtain ⟨p0, p1, p2, p3, p4⟩ := cells5 Hp8.out
    obtain ⟨t0, t1, t2⟩ := cells3v Ht8.out
    clear Hm7 Hx7 Hn7 Hp7 Ht7 Hu7 Hv7 HB7
    go_wp2_with fail
    refine wp_region_inv [89, 90, 91, 92, 93, 94, 88, 95, 96, 16, 17] (fun d s W => (d 0 = true → s 89 = .int .i64 (kd : Int)) ∧ (d 1 = true → s 90 = .agg #[.slice Am nm cm, .int .i64 (o : Int), .int .i64 (R : Int), .int .i64 (R : Int), .int .i64 (L : Int)]) ∧ (d 2 = true → (d 10 = false → TbG W (s 91) (Tab lm o R R L NM) R R NM)) ∧ (d 3 = true → s 92 = .agg #[.slice Ax nx cx, .int .i64 (o2 : Int), .int .i64 (R : Int), .int .i64 (C : Int), .int .i64 (L2 : Int)]) ∧ (d 4 = true → (d 10 = false → TbG W (s 93) (Tab lx o2 R C L2 N) R C N)) ∧ (d 5 = true → TuM W (s 94) (TsTl N) R C N bz) ∧ (d 6 = true → TuM W (s 88) (TsTl N) R C N bz) ∧ (d 7 = true → ToM W (s 95) (TsTl N) R C N) ∧ (d 8 = true → s 96 = .bool bz) ∧ (d 9 = true → NbT W (s 16) we1.heap.size) ∧ (d 10 = true → PqT W (s 16) we1.heap.size (TsTl N) R C N) ∧ (d 11 = true → s 17 = .bool bz) ∧ (d 10 = true → d 9 = true) ∧ (d 10 = true → d 5 = true) ∧ (d 7 = true → d 5 = true) ∧ (d 6 = true → d 5 = true) ∧ Below we1.heap.size we1 W)
      rfl (by kernel_rfl) ?_ ?_ ?_
    · exact ⟨by simp, by simp, by simp, by simp, by simp, by simp, by simp, by simp, by simp, by simp, by simp, by simp, by simp, by simp, by simp, by simp, (Below.refl _ _).drew⟩
    · refine ⟨?_, ?_, ?_, ?_, ?_, ?_, ?_, ?_, ?_, ?_, ?_, ?_, trivial⟩
      all_goals
        intro d s W hJ hfr hd hdep
        simp only [List.mem_cons, forall_eq_or_imp, List.not_mem_nil, false_implies, implies_true, and_true, Region.binds] at hdep
        have f0 := hfr 0 (by decide)
        have f7 := hfr 7 (by decide)
        have f8 := hfr 8 (by decide)
        simp at f0 f7 f8 hdep
        obtain ⟨h0, h1, h2, h3, h4, h5, h6, h7, h8, h9, h10, h11, x0, x1, x2, x3, hT⟩ := hJ
      · as_aux_lemma =>
          unfold OpSteps
          simp [go_sem, evS, f0]
          exact ⟨fun _ => by simp [sput], kpw h1, fun h e => by simpa [sput] using h2 (by simpa [did] using h) (by simpa [did] using e), kpw h3, fun h e => by simpa [sput] using h4 (by simpa [did] using h) (by simpa [did] using e), fun h => by simpa [sput] using h5 (by simpa [did] using h), fun h => by simpa [sput] using h6 (by simpa [did] using h), fun h => by simpa [sput] using h7 (by simpa [did] using h), kpw h8, fun h => by simpa [sput] using h9 (by simpa [did] using h), fun h => by simpa [sput] using h10 (by simpa [did] using h), kpw h11, by simpa [sput, did] using x0, by simpa [sput, did] using x1, by simpa [sput, did] using x2, by simpa [sput, did] using x3, hT⟩
      · as_aux_lemma =>
          unfold OpSteps
          obtain ⟨p0, p1, p2, p3, p4⟩ := cells5 (Hm8.out.below hT Hm8.out.lt)
          simp [go_sem, evS, f7, p0, p1, p2, p3, p4]
          exact ⟨kpw h0, fun _ => by simp [sput], fun h e => by simpa [sput] using h2 (by simpa [did] using h) (by simpa [did] using e), kpw h3, fun h e => by simpa [sput] using h4 (by simpa [did] using h) (by simpa [did] using e), fun h => by simpa [sput] using h5 (by simpa [did] using h), fun h => by simpa [sput] using h6 (by simpa [did] using h), fun h => by simpa [sput] using h7 (by simpa [did] using h), kpw h8, fun h => by simpa [sput] using h9 (by simpa [did] using h), fun h => by simpa [sput] using h10 (by simpa [did] using h), kpw h11, by simpa [sput, did] using x0, by simpa [sput, did] using x1, by simpa [sput, did] using x2, by simpa [sput, did] using x3, hT⟩
      · as_aux_lemma =>
          have g1 := h1 (by simp [hdep])
          unfold OpSteps
          simp [go_sem, evS, g1]
          refine (HOfm.out W (below_nx HB8.out hT)).mono ?_
          rintro e W' ⟨q9, T9, rfl, hS9, hr9, hb⟩
          refine ⟨_, rfl, ?_⟩
          exact ⟨kpw h0, kpw h1, fun _ => fun _ => ⟨q9, NM, T9, by simp [sput], hS9, hr9⟩, kpw h3, fun h e => by simpa [sput] using (h4 (by simpa [did] using h) (by simpa [did] using e)).below hb, fun h => by simpa [sput] using (h5 (by simpa [did] using h)).below hb, fun h => by simpa [sput] using (h6 (by simpa [did] using h)).below hb, fun h => by simpa [sput] using (h7 (by simpa [did] using h)).below hb, kpw h8, fun h => by simpa [sput] using (h9 (by simpa [did] using h)).below hb, fun h => by simpa [sput] using (h10 (by simpa [did] using h)).below hb, kpw h11, by simpa [sput, did] using x0, by simpa [sput, did] using x1, by simpa [sput, did] using x2, by simpa [sput, did] using x3, below_nx hT hb⟩
      · as_aux_lemma =>
          unfold OpSteps
          obtain ⟨p0, p1, p2, p3, p4⟩ := cells5 (Hx8.out.below hT Hx8.out.lt)
          simp [go_sem, evS, f8, p0, p1, p2, p3, p4]
          exact ⟨kpw h0, kpw h1, fun h e => by simpa [sput] using h2 (by simpa [did] using h) (by simpa [did] using e), fun _ => by simp [sput], fun h e => by simpa [sput] using h4 (by simpa [did] using h) (by simpa [did] using e), fun h => by simpa [sput] using h5 (by simpa [did] using h), fun h => by simpa [sput] using h6 (by simpa [did] using h), fun h => by simpa [sput] using h7 (by simpa [did] using h), kpw h8, fun h => by simpa [sput] using h9 (by simpa [did] using h), fun h => by simpa [sput] using h10 (by simpa [did] using h), kpw h11, by simpa [sput, did] using x0, by simpa [sput, did] using x1, by simpa [sput, did] using x2, by simpa [sput, did] using x3, hT⟩
      · as_aux_lemma =>
          have g3 := h3 (by simp [hdep])
          unfold OpSteps
          simp [go_sem, evS, g3]
          refine (HOfx.out W (below_nx HB8.out hT)).mono ?_
          rintro e W' ⟨q9, T9, rfl, hS9, hr9, hb⟩
          refine ⟨_, rfl, ?_⟩
          exact ⟨kpw h0, kpw h1, fun h e => by simpa [sput] using (h2 (by simpa [did] using h) (by simpa [did] using e)).below hb, kpw h3, fun _ => fun _ => ⟨q9, N, T9, by simp [sput], hS9, hr9⟩, fun h => by simpa [sput] using (h5 (by simpa [did] using h)).below hb, fun h => by simpa [sput] using (h6 (by simpa [did] using h)).below hb, fun h => by simpa [sput] using (h7 (by simpa [did] using h)).below hb, kpw h8, fun h => by simpa [sput] using (h9 (by simpa [did] using h)).below hb, fun h => by simpa [sput] using (h10 (by simpa [did] using h)).below hb, kpw h11, by simpa [sput, did] using x0, by simpa [sput, did] using x1, by simpa [sput, did] using x2, by simpa [sput, did] using x3, below_nx hT hb⟩
      · as_aux_lemma =>
          have g0 := h0 (by simp [hdep])
          have g2 := h2 (by simp [hdep])
          have g4 := h4 (by simp [hdep])
          unfold OpSteps
          have hl : d 10 = false := by
            cases h : d 10
            · rfl
            · have := x1 h; simp [hd] at this
          obtain ⟨q8, c8, T8, gv2, gS2, gR2⟩ := g2 hl
          obtain ⟨q7, c7, T7, gv4, gS4, gR4⟩ := g4 hl
          simp [go_sem, evS, g0, gv2, gv4]
          refine (HRs.out q8 c8 q7 c7 T8 T7 W gS2 gS4 gR2 gR4).mono ?_
          rintro e W' ⟨g9, c9, T9, rfl, hS9, hO9, hb⟩
          refine ⟨_, rfl, ?_⟩
          exact ⟨kpw h0, kpw h1, fun h e => by simpa [sput] using (h2 (by simpa [did] using h) (by simpa [did] using e)).below hb, kpw h3, fun h e => by simpa [sput] using (h4 (by simpa [did] using h) (by simpa [did] using e)).below hb, fun _ => ⟨g9, c9, T9, by simp [sput], hS9, hO9⟩, fun h => by simpa [sput] using (h6 (by simpa [did] using h)).below hb, fun h => by simpa [sput] using (h7 (by simpa [did] using h)).below hb, kpw h8, fun h => by simpa [sput] using (h9 (by simpa [did] using h)).below hb, fun h => by simpa [sput] using (h10 (by simpa [did] using h)).below hb, kpw h11, by simpa [sput, did] using x0, fun _ => by simp [did], fun _ => by simp [did], fun _ => by simp [did], below_nx hT hb⟩
      · as_aux_lemma =>
          have g5 := h5 (by simp [hdep])
          unfold OpSteps
          simp [go_sem, evS, g5]
          exact ⟨kpw h0, kpw h1, fun h e => by simpa [sput] using h2 (by simpa [did] using h) (by simpa [did] using e), kpw h3, fun h e => by simpa [sput] using h4 (by simpa [did] using h) (by simpa [did] using e), fun h => by simpa [sput] using h5 (by simpa [did] using h), fun _ => by simpa [sput] using g5, fun h => by simpa [sput] using h7 (by simpa [did] using h), kpw h8, fun h => by simpa [sput] using h9 (by simpa [did] using h), fun h => by simpa [sput] using h10 (by simpa [did] using h), kpw h11, by simpa [sput, did] using x0, by simpa [sput, did] using x1, by simpa [sput, did] using x2, fun _ => by simp [did, hdep], hT⟩
      · as_aux_lemma =>
          have g6 := h6 (by simp [hdep])
          unfold OpSteps
          obtain ⟨g9, c9, T9, gv, gS9, gO9⟩ := g6
          simp [go_sem, evS, gv]
          exact ⟨kpw h0, kpw h1, fun h e => by simpa [sput] using h2 (by simpa [did] using h) (by simpa [did] using e), kpw h3, fun h e => by simpa [sput] using h4 (by simpa [did] using h) (by simpa [did] using e), fun h => by simpa [sput] using h5 (by simpa [did] using h), fun h => by simpa [sput] using h6 (by simpa [did] using h), fun _ => ⟨g9, c9, T9, by simp [sput], gS9, gO9⟩, kpw h8, fun h => by simpa [sput] using h9 (by simpa [did] using h), fun h => by simpa [sput] using h10 (by simpa [did] using h), kpw h11, by simpa [sput, did] using x0, by simpa [sput, did] using x1, fun _ => by simp [did, x3 (by simp [hdep])], by simpa [sput, did] using x3, hT⟩
      · as_aux_lemma =>
          have g6 := h6 (by simp [hdep])
          unfold OpSteps
          obtain ⟨g9, c9, T9, gv, gS9, gO9⟩ := g6
          simp [go_sem, evS, gv]
          exact ⟨kpw h0, kpw h1, fun h e => by simpa [sput] using h2 (by simpa [did] using h) (by simpa [did] using e), kpw h3, fun h e => by simpa [sput] using h4 (by simpa [did] using h) (by simpa [did] using e), fun h => by simpa [sput] using h5 (by simpa [did] using h), fun h => by simpa [sput] using h6 (by simpa [did] using h), fun h => by simpa [sput] using h7 (by simpa [did] using h), fun _ => by simp [sput], fun h => by simpa [sput] using h9 (by simpa [did] using h), fun h => by simpa [sput] using h10 (by simpa [did] using h), kpw h11, by simpa [sput, did] using x0, by simpa [sput, did] using x1, by simpa [sput, did] using x2, by simpa [sput, did] using x3, hT⟩
      · as_aux_lemma =>
          unfold OpSteps
          simp [go_sem, evS]
          exact ⟨kpw h0, kpw h1, fun h e => by simpa [sput] using (h2 (by simpa [did] using h) (by simpa [did] using e)).below below_one, kpw h3, fun h e => by simpa [sput] using (h4 (by simpa [did] using h) (by simpa [did] using e)).below below_one, fun h => by simpa [sput] using (h5 (by simpa [did] using h)).below below_one, fun h => by simpa [sput] using (h6 (by simpa [did] using h)).below below_one, fun h => by simpa [sput] using (h7 (by simpa [did] using h)).below below_one, kpw h8, fun _ => ⟨W.heap.size, _, _, _, by simp [sput], Blk.new W _ _, hT.size⟩, fun h => by have := x0 (by simpa [did] using h); simp [hd] at this, kpw h11, fun _ => by simp [did], by simpa [sput, did] using x1, by simpa [sput, did] using x2, by simpa [sput, did] using x3, below_al hT⟩
      · as_aux_lemma =>
          have g9 := h9 (by simp [hdep])
          have g7 := h7 (by simp [hdep])
          unfold OpSteps
          obtain ⟨p9, z0, z1, z2, gp, hB9, hlo⟩ := g9
          obtain ⟨g9, c9, T9, gv, gS9, gO9⟩ := g7
          obtain ⟨fr0, fr1, fr2⟩ := frozen3v hB9
          obtain ⟨k0, k1, k2⟩ := cells3v hB9
          have hfar : ∀ k9, k9 ≠ p9 → _ := fun k9 (hk9 : k9 ≠ p9) => heap_sets3 (w := W) hk9 (.int .i64 (R : Int)) (.int .i64 (C : Int)) (.slice (some ⟨g9, 0, none⟩) N c9)
          simp [go_sem, evS, gp, gv, fr0, fr1, fr2, k0, k1, k2]
          exact ⟨kpw h0, kpw h1, fun h e => by simp [did] at e, kpw h3, fun h e => by simp [did] at e, fun h => by simpa [sput] using (h5 (by simpa [did] using h)).far hB9 (by decide) hfar, fun h => by simpa [sput] using (h6 (by simpa [did] using h)).far hB9 (by decide) hfar, fun h => by simpa [sput] using (h7 (by simpa [did] using h)).far hB9 (by decide) hfar, kpw h8, fun h => ⟨p9, _, _, _, by simpa [sput] using gp, Blk.store3v hB9 _ _ _, hlo⟩, fun _ => ⟨p9, g9, c9, T9, by simpa [sput] using gp, Blk.store3v hB9 _ _ _, gS9, own_off gO9 (own_ne gO9 hB9 (by decide)) hfar, hlo⟩, kpw h11, fun _ => by simp [did, hdep], fun _ => by simp [did, x2 (by simp [hdep])], by simpa [sput, did] using x2, by simpa [sput, did] using x3, below3g hT hlo _ _ _⟩
      · as_aux_lemma =>
          have g8 := h8 (by simp [hdep])
          unfold OpSteps
          simp [go_sem, evS, g8]
          exact ⟨kpw h0, kpw h1, fun h e => by simpa [sput] using h2 (by simpa [did] using h) (by simpa [did] using e), kpw h3, fun h e => by simpa [sput] using h4 (by simpa [did] using h) (by simpa [did] using e), fun h => by simpa [sput] using h5 (by simpa [did] using h), fun h => by simpa [sput] using h6 (by simpa [did] using h), fun h => by simpa [sput] using h7 (by simpa [did] using h), kpw h8, fun h => by simpa [sput] using h9 (by simpa [did] using h), fun h => by simpa [sput] using h10 (by simpa [did] using h), fun _ => by simp [sput], by simpa [sput, did] using x0, by simpa [sput, did] using x1, by simpa [sput, did] using x2, by simpa [sput, did] using x3, hT⟩
    intro d s W hJ hd
    obtain ⟨h0, h1, h2, h3, h4, h5, h6, h7, h8, h9, h10, h11, x0, x1, x2, x3, hT⟩ := hJ
    have h10' := h10 (hd 10 (by decide))
    have hs17 := h11 (hd 11 (by decide))
    have hb : Below we1.heap.size we1 W := hT
    clear h0 h1 h2 h3 h4 h5 h6 h7 h8 h9 h10 h11 x0 x1 x2 x3 hT hd
    obtain ⟨p9, g9, c9, T9, hs16, hB9, hS9, hO9, hlo9⟩ := h10'
    simp [setAll, hs17, hs16]
    clear hs17 hs16
    generalize s 89 = s89
    generalize s 90 = s90
    generalize s 91 = s91
    generalize s 92 = s92
    generalize s 93 = s93
    generalize s 94 = s94
    generalize s 88 = s88
    generalize s 95 = s95
    generalize s 96 = s96
    generalize W = wg at *
    have HZp := Lib.hid (show zt < p9 ∧ pn < p9 ∧ pp < p9 ∧ w.heap.size + 1 < p9 from by have h1 := Ht8.out.lt; have h2 := HZt.out; omega)
    have Hm9 := Lib.hid (Hm8.out.nxt hb)
    have Hx9 := Lib.hid (Hx8.out.nxt hb)
    have Hn9 := Lib.hid (Hn8.out.nxt hb)
    have Hp9 := Lib.hid (Hp8.out.nxt hb)
    have Ht9 := Lib.hid (Ht8.out.nxt hb)
    have Hu9 := Lib.hid (Hu8.out.nxt hb)
    have Hv9 := Lib.hid (Hv8.out.nxt hb)
    have HB9 := Lib.hid (below_nx HB8.out hb)
    clear hb
    clear m0 m1 m2 m3 m4 x0 x1 x2 x3 x4 n0 n1 n2 n3 n4 p0 p1 p2 p3 p4 t0 t1 t2
    obtain ⟨m0, m1, m2, m3, m4⟩ := cells5 Hm9.out
    obtain ⟨x0, x1, x2, x3, x4⟩ := cells5 Hx9.out
    obtain ⟨n0, n1, n2, n3, n4⟩ := cells5 Hn9.out
    obtain ⟨p0, p1, p2, p3, p4⟩ := cells5 Hp9.out
    obtain ⟨t0, t1, t2⟩ := cells3v Ht9.out
    clear Hm8 Hx8 Hn8 Hp8 Ht8 Hu8 Hv8 HB8
    have Hr9 := Lib.hid hB9
    have Hy9 := Lib.hid hO9
    have HS9 := Lib.hid hS9
    clear hB9 hO9 hS9 hlo9
    clear m0 m1 m2 m3 m4 x0 x1 x2 x3 x4 n0 n1 n2 n3 n4 p0 p1 p2 p3 p4 t0 t1 t2
    obtain ⟨m0, m1, m2, m3, m4⟩ := cells5 Hm9.out
    obtain ⟨x0, x1, x2, x3, x4⟩ := cells5 Hx9.out
    obtain ⟨n0, n1, n2, n3, n4⟩ := cells5 Hn9.out
    obtain ⟨p0, p1, p2, p3, p4⟩ := cells5 Hp9.out
    obtain ⟨t0, t1, t2⟩ := cells3v Ht9.out
    obtain ⟨r0, r1, r2⟩ := cells3v Hr9.out
    obtain ⟨f0, f1, f2⟩ := frozen3v Ht9.out
    go_upto_region 20 with fail
    have Hm10 := Lib.hid (blk3g Hm9.out (show w.heap.size ≠ zt by have := HZt.out; have := HZp.out; omega) (.int .i64 (R : Int)) (.int .i64 (C : Int)) (.slice (some ⟨g9, 0, none⟩) N c9))
    have Hx10 := Lib.hid (blk3g Hx9.out (show w.heap.size + 1 ≠ zt by have := HZt.out; have := HZp.out; omega) (.int .i64 (R : Int)) (.int .i64 (C : Int)) (.slice (some ⟨g9, 0, none⟩) N c9))
    have Hn10 := Lib.hid (blk3g Hn9.out (show pn ≠ zt by have := HZt.out; have := HZp.out; omega) (.int .i64 (R : Int)) (.int .i64 (C : Int)) (.slice (some ⟨g9, 0, none⟩) N c9))
    have Hp10 := Lib.hid (blk3g Hp9.out (show pp ≠ zt by have := HZt.out; have := HZp.out; omega) (.int .i64 (R : Int)) (.int .i64 (C : Int)) (.slice (some ⟨g9, 0, none⟩) N c9))
    have Ht10 := Lib.hid (Ht9.out.store3v (.int .i64 (R : Int)) (.int .i64 (C : Int)) (.slice (some ⟨g9, 0, none⟩) N c9))
    have Hr10 := Lib.hid (blk3g Hr9.out (show p9 ≠ zt by have := HZt.out; have := HZp.out; omega) (.int .i64 (R : Int)) (.int .i64 (C : Int)) (.slice (some ⟨g9, 0, none⟩) N c9))
    have Hu10 := Lib.hid (own3g Hu9.out (own_ne Hu9.out Ht9.out (by decide)) (.int .i64 (R : Int)) (.int .i64 (C : Int)) (.slice (some ⟨g9, 0, none⟩) N c9))
    have Hv10 := Lib.hid (own3g Hv9.out (own_ne Hv9.out Ht9.out (by decide)) (.int .i64 (R : Int)) (.int .i64 (C : Int)) (.slice (some ⟨g9, 0, none⟩) N c9))
    have Hy10 := Lib.hid (own3g Hy9.out (own_ne Hy9.out Ht9.out (by decide)) (.int .i64 (R : Int)) (.int .i64 (C : Int)) (.slice (some ⟨g9, 0, none⟩) N c9))
    have HB10 := Lib.hid (below3g HB9.out (show w.heap.size ≤ zt by have := HZt.out; omega) (.int .i64 (R : Int)) (.int .i64 (C : Int)) (.slice (some ⟨g9, 0, none⟩) N c9))
    clear Hm9 Hx9 Hn9 Hp9 Ht9 Hr9 Hu9 Hv9 Hy9 HB9
    clear m0 m1 m2 m3 m4 x0 x1 x2 x3 x4 n0 n1 n2 n3 n4 p0 p1 p2 p3 p4 t0 t1 t2 r0 r1 r2
    clear f0 f1 f2
    generalize (((wg.setCell ⟨zt, 0, none⟩ (.int .i64 (R : Int))).setCell ⟨zt, 1, none⟩ (.int .i64 (C : Int))).setCell ⟨zt, 2, none⟩ (.slice (some ⟨g9, 0, none⟩) N c9)) = wh at *
    clear Hr10
    obtain ⟨m0, m1, m2, m3, m4⟩ := cells5 Hm10.out
    obtain ⟨x0, x1, x2, x3, x4⟩ := cells5 Hx10.out
    obtain ⟨n0, n1, n2, n3, n4⟩ := cells5 Hn10.out
    obtain ⟨p0, p1, p2, p3, p4⟩ := cells5 Hp10.out
    obtain ⟨t0, t1, t2⟩ := cells3v Ht10.out
    have Hm := Hm10
    have Hx := Hx10
    have Hn := Hn10
    have Hp := Hp10
    have Ht := Ht10
    have Hu := Hu10
    have Hv := Hv10
    have Hy := Hy10
    have HB := HB10
    clear Hm10 Hx10 Hn10 Hp10 Ht10 Hu10 Hv10 Hy10 HB10
    rcases hE with ⟨rfl, rfl⟩
    all_goals
      repeat
        go_wp2_with fail
        first | with_reducible refine (HMs.out _).mono ?_ | with_reducible refine (HMx.out _).mono ?_ | with_reducible refine (HGm.out _).mono ?_ | with_reducible refine (HGy.out _).mono ?_ | with_reducible refine (HAllm.out _ _ _ _ _ Hu.out.row (HAm.out.below HB.out)).mono ?_ | with_reducible refine (HAllx.out _ _ _ _ _ Hv.out.row (HAx.out.below HB.out)).mono ?_ | with_reducible refine (HAw.out _).mono ?_
        rintro e w9 ⟨rfl, hb⟩
        replace Hm := Lib.hid (Hm.out.nxt hb)
        replace Hx := Lib.hid (Hx.out.nxt hb)
        replace Hn := Lib.hid (Hn.out.nxt hb)
        replace Hp := Lib.hid (Hp.out.nxt hb)
        replace Ht := Lib.hid (Ht.out.nxt hb)
        replace Hu := Lib.hid (Hu.out.nxt hb)
        replace Hv := Lib.hid (Hv.out.nxt hb)
        replace Hy := Lib.hid (Hy.out.nxt hb)
        replace HB := Lib.hid (below_nx HB.out hb)
        clear hb m0 m1 m2 m3 m4 x0 x1 x2 x3 x4 n0 n1 n2 n3 n4 p0 p1 p2 p3 p4 t0 t1 t2
        obtain ⟨m0, m1, m2, m3, m4⟩ := cells5 Hm.out
        obtain ⟨x0, x1, x2, x3, x4⟩ := cells5 Hx.out
        obtain ⟨n0, n1, n2, n3, n4⟩ := cells5 Hn.out
        obtain ⟨p0, p1, p2, p3, p4⟩ := cells5 Hp.out
        obtain ⟨t0, t1, t2⟩ := cells3v Ht.out
      go_wp2_with fail
      go_ret
      exact ⟨rfl, HB.out⟩

end Go.Proofs.Ytcdhpoikppfjkaa
