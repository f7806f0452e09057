/-
TrsmSolves, no error. Conditions: as each says.
-/
import Derived.Test.YtcdhpoikppfjkaaWaav
set_option linter.unusedVariables false
set_option linter.unusedSimpArgs false
set_option linter.unnecessarySimpa false
namespace Go.Proofs.Ytcdhpoikppfjkaa
open Go.RowKit
attribute [local go_sem ↓] Go.wp_at_zero Go.wp_at_succ

set_option maxRecDepth 100000 in
set_option maxHeartbeats 4000000 in
theorem tsm_ok1 (kd S : Nat) (hkd : kd = 1 ∨ kd = 2) (hS1 : 1 ≤ S) (Am : Option Addr) (nm cm : Nat) (lm : List Nat) (Ax : Option Addr) (nx cx : Nat) (lx : List Nat) (o R L o2 C L2 : Nat) (one : Bool) (w : World) (hAm : Row w Am (f64s lm)) (hAx : Row w Ax (f64s lx)) (hWm : Wds lm) (hWx : Wds lx) (hlm : lm.length = nm) (hlx : lx.length = nx) (hnm : nm ≤ 1000) (hnx : nx ≤ 1000) (hG : greatB nm (R : Int) (R : Int) = false) (hGx : greatB nx (R : Int) (C : Int) = false) (hv : one = true ∧ 0 < nm) (hR : R ≤ 20) (hC : C ≤ 20) (hoI : I64 o) (hLI : I64 L) (ho2I : I64 o2) (hL2I : I64 L2) (hL1 : 1 ≤ L) (hRL : R ≤ L) (hmr : R = 0 ∨ R = 0 ∨ o + (R - 1) * L + (R - 1) < nm) (hL21 : 1 ≤ L2) (hRL2 : R ≤ L2) (hxr : R = 0 ∨ C = 0 ∨ o2 + (C - 1) * L2 + (R - 1) < nm) (bz sp : Bool) (hz : (!trHZ kd (fun i k => lm.getD (o + i + k * L) 0) R) = bz) (hsp : spB (msA o R R) (msB o R R L) (msA o2 R C) (msB o2 R C L2) = sp) (hbz : bz = true) (hsf : sp = false) (E : Nat → Nat → Nat → Nat) (F : Nat → Nat → Nat) (hS : ∀ j, TrS kd R (trV kd (fun i k => lm.getD (o + i + k * L) 0)) (fun p => lm.getD (o2 + p + j * L2) 0) (E j) (F j)) (hPr : ∀ W (g cg : Nat) (hO : Own W g lm) , Calls Try.prog 8 #[.int .i64 (kd : Int), .int .i64 (S : Int), mat (some ⟨g, 0, none⟩) nm cg o R R L, mat (some ⟨g, 0, none⟩) nm cg o2 R C L2] W fun e w' => e = .returned (.int .i64 0) ∧ ∃ y, Imr lm o2 R C L2 (fun i j r => Is r (F j i)) y ∧ Own w' g y ∧ Chg [g] W w') :
    Calls Try.prog 3 #[.int .i64 (kd : Int), .int .i64 (S : Int), mat Am nm cm o R R L, mat Ax nx cx o2 R C L2, .bool one] w fun e w' => e = .returned (.bool true) ∧ Below w.heap.size w w' := by
  have hRI : I64 (R : Int) := by unfold I64; omega
  have hCI : I64 (C : Int) := by unfold I64; omega
  have HGr := Lib.hid (fun W => great_any Am nm cm o R R L W)
  have HGs := Lib.hid (fun W => great_any Ax nx cx o2 R C L2 W)
  rw [hG] at HGr
  rw [hGx] at HGs
  have HApm := Lib.hid (apart_c Am nm cm lm o R R L w hAm hlm (by omega))
  have HApx := Lib.hid (apart_c Am nm cm lm o2 R C L2 w hAm hlm (by omega))
  have HGm := Lib.hid (fun W => rgood_any Am nm cm o R R L W (by omega) hoI hRI hRI hLI)
  have HGy := Lib.hid (fun W => rgood_any Am nm cm o2 R C L2 W (by omega) ho2I hRI hCI hL2I)
  have HAllm := Lib.hid (all_c lm nm hWm hlm (by omega))
  have HAllx := Lib.hid (all_c lm nm hWm hlm (by omega))
  have HAw := Lib.hid (fun W => awake14_any W)
  have HPr := Lib.hid hPr
  rw [mat_right hL1 hRL hmr] at HGm
  rw [mat_right hL21 hRL2 hxr] at HGy
  subst hbz
  subst hsf
  obtain ⟨NM, hNM⟩ : ∃ N, R * R = N := ⟨_, rfl⟩
  obtain ⟨N, hN⟩ : ∃ N, R * C = N := ⟨_, rfl⟩
  have hNb : NM ≤ 400 ∧ N ≤ 400 := by
    have h1 : R * R ≤ 20 * 20 := Nat.mul_le_mul hR hR
    have h2 : R * C ≤ 20 * 20 := Nat.mul_le_mul hR hC
    omega
  have HOfm := Lib.hid (fun W (hb : Below w.heap.size w W) => show Calls Try.prog 11 #[mat Am nm cm o R R L] W fun e w' => ∃ g T, e = .returned (tbl R R g NM NM) ∧ Tab lm o R R L NM T ∧ Row w' (some ⟨g, 0, none⟩) (f64s T) ∧ Below W.heap.size W w' from by
    refine (rof_any Am nm cm lm o R R L NM W (hAm.below hb) hlm (by omega) hNM (by omega) (by omega) (by omega) hmr).mono ?_
    rintro e w' ⟨g', T, e1, e2, e3, _, e4⟩
    exact ⟨g', T, e1, e2, e3, e4⟩)
  have HOfx := Lib.hid (fun W (hb : Below w.heap.size w W) => show Calls Try.prog 11 #[mat Am nm cm o2 R C L2] W fun e w' => ∃ g T, e = .returned (tbl R C g N N) ∧ Tab lm o2 R C L2 N T ∧ Row w' (some ⟨g, 0, none⟩) (f64s T) ∧ Below W.heap.size W w' from by
    refine (rof_any Am nm cm lm o2 R C L2 N W (hAm.below hb) hlm (by omega) hN (by omega) (by omega) (by omega) hxr).mono ?_
    rintro e w' ⟨g', T, e1, e2, e3, _, e4⟩
    exact ⟨g', T, e1, e2, e3, e4⟩)
  have hag : ∀ T, Tab lm o R R L NM T → ∀ p, p < R → ∀ q, q < R → T.getD (p * R + q) 0 = (fun i k => lm.getD (o + i + k * L) 0) p q := fun T hT p hp q hq => tab_get hT hNM hp hq
  have HRs := Lib.hid (fun (g1 c1 g2 c2 : Nat) (T1 T2 : List Nat) W (h1 : Tab lm o R R L NM T1) (h2 : Tab lm o2 R C L2 N T2) (r1 : Row W (some ⟨g1, 0, none⟩) (f64s T1)) (r2 : Row W (some ⟨g2, 0, none⟩) (f64s T2)) => show Calls Try.prog 10 #[.int .i64 (kd : Int), tbl R R g1 NM c1, tbl R C g2 N c2] W fun e w' => ∃ g c T', e = .returned (.tuple #[tbl R C g N c, .bool true]) ∧ (TsTb R C N F) T' ∧ Own w' g T' ∧ Below W.heap.size W w' from by
    have l1 : T1.length = NM := by rw [h1.1, hNM]
    refine (rtsm_any kd hkd R C g1 NM c1 T1 g2 N c2 T2 E F true W r1 l1 hNM r2 (by rw [h2.1, hN]) hN (by omega) (by omega) (by omega) (by omega) (tab_wdse h1 hNM hWm) (tab_wdse h2 hN hWm) (fun h0 => row_ltg r1 l1 h0)
      (fun j hj => (hS j).agree (by rcases hkd with h | h <;> simp [h]) (fun p hp q hq => (trV_agree (hag T1 h1) p hp q hq).symm) (fun p hp => (tab_get h2 hN hp hj).symm)) (by rw [trHZ_agree (hag T1 h1)]; exact hz)).mono ?_
    rintro e w' ⟨g', c', T', e1, ⟨q1, q2⟩, e3, _, e5⟩
    exact ⟨g', c', T', e1, ⟨q1, q2 rfl⟩, e3, e5⟩)
  have HMs := Lib.hid (fun W => mspan_any Am nm cm o R R L W (by omega) (by omega) (by omega) hmr)
  have HMx := Lib.hid (fun W => mspan_any Am nm cm o2 R C L2 W (by omega) (by omega) (by omega) hxr)
  have HSx := Lib.hid (fun W => spans_any (msA o R R) (msB o R R L) (msA o2 R C) (msB o2 R C L2) W)
  rw [hsp] at HSx
  obtain ⟨x1, hx1⟩ : ∃ z, msA o2 R C = z := ⟨_, rfl⟩
  obtain ⟨x2, hx2⟩ : ∃ z, msB o2 R C L2 = z := ⟨_, rfl⟩
  obtain ⟨m1, hm1⟩ : ∃ z, msA o R R = z := ⟨_, rfl⟩
  obtain ⟨m2, hm2⟩ : ∃ z, msB o R R L = z := ⟨_, rfl⟩
  rw [hx1, hx2] at HMx
  rw [hm1, hm2] at HMs
  rw [hx1, hx2, hm1, hm2] at HSx
  have e1 : decide ((kd : Int) < 1) = false := decide_eq_false (by omega)
  have e2 : decide ((2 : Int) < (kd : Int)) = false := decide_eq_false (by omega)
  have e3 : decide ((S : Int) < 1) = false := decide_eq_false (by omega)
  have tR : ((R : Int) == (R : Int)) = true := by simp
  have tR' : ((R : Int) != (R : Int)) = false := by simp
  have HIn := Lib.hid (fun (g c : Nat) (T : List Nat) W (hb : Below w.heap.size w W) (hT : (TsTb R C N F) T) (h : Row W (some ⟨g, 0, none⟩) (f64s T)) => show Calls Try.prog 15 #[mat Am nm cm o2 R C L2, tbl R C g N c] W fun e w' => ∃ B d X, e = .returned (.slice B nm d) ∧ (TsIm R C N F lm o2 L2) X ∧ Row w' B (f64s X) ∧ Below W.heap.size W w' from by
    refine (rinto_any Am nm cm lm o2 R C L2 g N c T W (hAm.below hb) h hlm (by omega) hT.1 hN (by omega) (by omega) (by omega) (fun h0 => row_ltg h hT.1 h0) hL21 hRL2 hxr).mono ?_
    rintro e w' ⟨g', c', l', e1, e2, e3, _, e4⟩
    exact ⟨_, c', l', e1, ⟨T, hT, e3⟩, e2.row, e4⟩)
  have HFin := Lib.hid (fun W (A B : Option Addr) (c d : Nat) (X Y : List Nat) (hX : Imr lm o2 R C L2 (fun i j r => Is r (F j i)) X) (hY : (TsIm R C N F lm o2 L2) Y) (h1 : Row W A (f64s X)) (h2 : Row W B (f64s Y)) => show Calls Try.prog 14 #[.slice A nm c, .slice B nm d] W fun e w' => e = .returned (.bool true) ∧ Below W.heap.size W w' from by
    obtain ⟨T, hT, hY⟩ := hY
    have hal : Alike X Y := alike_imge hX hY (fun i hi j hj r (h : Is r (F j i)) => h.same (hT.2 i hi j hj))
    have hw1 : Wds X := wds_imre hWm hX (fun i _ j _ r (h : Is r (F j i)) => h.lt)
    have hw2 : Wds Y := wds_img2e hWm hY (fun i hi j hj => (hT.2 i hi j hj).lt)
    have := rall_any A B c d X Y W hw1 hw2 h1 h2 (by rw [hX.1]; omega) hal
    rw [hX.1, hY.1, hlm] at this; exact this)
  have HAm := Lib.hid hAm
  have HAx := Lib.hid hAm
  obtain ⟨rfl, hn0⟩ := hv
  have d1 : decide ((0 : Int) < (nm : Int)) = true := by simp; exact hn0
  have d2 : decide (0 < nm) = true := by simp; exact hn0
  clear hAm hAx hWm hWx hlm hlx hnm hnx hG hGx hPr hkd hS1 hR hC hoI hLI ho2I hL2I hL1 hRL hmr hL21 hRL2 hxr hRI hCI hNM hN hNb hag hx1 hx2 hm1 hm2 hz hsp hS hn0
  unfold mat tbl at *
  go_enter Try.func3, Try.ntmps3
  have Hm0 := Lib.hid ((Blk.new w 24 #[.slice Am nm cm, .int .i64 (o : Int), .int .i64 (R : Int), .int .i64 (R : Int), .int .i64 (L : Int)]).alloc (.cells #[.slice Ax nx cx, .int .i64 (o2 : Int), .int .i64 (R : Int), .int .i64 (C : Int), .int .i64 (L2 : Int)] 24))
  have Hx0 := Lib.hid (Blk.new_ (w.alloc (.cells #[.slice Am nm cm, .int .i64 (o : Int), .int .i64 (R : Int), .int .i64 (R : Int), .int .i64 (L : Int)] 24)) 24 #[.slice Ax nx cx, .int .i64 (o2 : Int), .int .i64 (R : Int), .int .i64 (C : Int), .int .i64 (L2 : Int)] (w.heap.size + 1) (by simp))
  have HB0 := Lib.hid (((Below.refl w.heap.size w).alloc (Nat.le_refl _) (.cells #[.slice Am nm cm, .int .i64 (o : Int), .int .i64 (R : Int), .int .i64 (R : Int), .int .i64 (L : Int)] 24)).alloc (by simp) (.cells #[.slice Ax nx cx, .int .i64 (o2 : Int), .int .i64 (R : Int), .int .i64 (C : Int), .int .i64 (L2 : Int)] 24))
  obtain ⟨m0, m1, m2, m3, m4⟩ := cells5 Hm0.out
  obtain ⟨x0, x1, x2, x3, x4⟩ := cells5 Hx0.out
  go_wp2_with fail
  refine (HAw.out _).mono ?_
  rintro e w1 ⟨rfl, hb⟩
  have Hm1 := Lib.hid (Hm0.out.nxt hb)
  have Hx1 := Lib.hid (Hx0.out.nxt hb)
  have HB1 := Lib.hid (below_nx HB0.out hb)
  clear hb
  clear m0 m1 m2 m3 m4 x0 x1 x2 x3 x4
  obtain ⟨m0, m1, m2, m3, m4⟩ := cells5 Hm1.out
  obtain ⟨x0, x1, x2, x3, x4⟩ := cells5 Hx1.out
  clear Hm0 Hx0 HB0
  go_wp2_with fail
  refine (HGr.out _).mono ?_
  rintro e w2 ⟨rfl, hb⟩
  have Hm2 := Lib.hid (Hm1.out.nxt hb)
  have Hx2 := Lib.hid (Hx1.out.nxt hb)
  have HB2 := Lib.hid (below_nx HB1.out hb)
  clear hb
  clear m0 m1 m2 m3 m4 x0 x1 x2 x3 x4
  obtain ⟨m0, m1, m2, m3, m4⟩ := cells5 Hm2.out
  obtain ⟨x0, x1, x2, x3, x4⟩ := cells5 Hx2.out
  clear Hm1 Hx1 HB1
  go_wp2_with fail
  refine (HGs.out _).mono ?_
  rintro e w3 ⟨rfl, hb⟩
  have Hm3 := Lib.hid (Hm2.out.nxt hb)
  have Hx3 := Lib.hid (Hx2.out.nxt hb)
  have HB3 := Lib.hid (below_nx HB2.out hb)
  clear hb
  clear m0 m1 m2 m3 m4 x0 x1 x2 x3 x4
  obtain ⟨m0, m1, m2, m3, m4⟩ := cells5 Hm3.out
  obtain ⟨x0, x1, x2, x3, x4⟩ := cells5 Hx3.out
  clear Hm2 Hx2 HB2
  obtain ⟨f0, _, _, _, _⟩ := frozen5 Hx3.out
  go_upto_region 8 with fail
  have hb9 : Blk (w3.setCell ⟨w.heap.size + 1, 0, none⟩ (.slice Am nm cm)) (w.heap.size + 1) 24 #[.slice Am nm cm, .int .i64 (o2 : Int), .int .i64 (R : Int), .int .i64 (C : Int), .int .i64 (L2 : Int)] := by simpa using Hx3.out.set_ 0 (.slice Am nm cm)
  have Hm4 := Lib.hid (Hm3.out.other (p := ⟨w.heap.size + 1, 0, none⟩) ((by first | (simp; done) | (simp; omega))) (.slice Am nm cm))
  have Hx4 := Lib.hid hb9
  have HB4 := Lib.hid (HB3.out.setCell (p := ⟨w.heap.size + 1, 0, none⟩) ((by first | (simp; done) | (simp; omega))) (.slice Am nm cm))
  clear m0 m1 m2 m3 m4 x0 x1 x2 x3 x4
  clear hb9 f0
  generalize (w3.setCell ⟨w.heap.size + 1, 0, none⟩ (.slice Am nm cm)) = w3b at *
  obtain ⟨m0, m1, m2, m3, m4⟩ := cells5 Hm4.out
  obtain ⟨x0, x1, x2, x3, x4⟩ := cells5 Hx4.out
  clear Hm3 Hx3 HB3
  first | go_wp2_with fail | skip
  refine wp_region_inv [42, 43, 44, 45, 11, 12] (fun d s W => (d 0 = true → s 42 = .agg #[.slice Am nm cm, .int .i64 (o : Int), .int .i64 (R : Int), .int .i64 (R : Int), .int .i64 (L : Int)]) ∧ (d 1 = true → OwM W (s 43) w3b.heap.size lm nm (o : Int) (R : Int) (R : Int) (L : Int)) ∧ (d 2 = true → s 44 = .agg #[.slice Am nm cm, .int .i64 (o2 : Int), .int .i64 (R : Int), .int .i64 (C : Int), .int .i64 (L2 : Int)]) ∧ (d 3 = true → OwM W (s 45) w3b.heap.size lm nm (o2 : Int) (R : Int) (C : Int) (L2 : Int)) ∧ (d 4 = true → NbM W (s 11) w3b.heap.size) ∧ (d 5 = true → NbM W (s 12) w3b.heap.size) ∧ (d 6 = true → PqM W (s 11) (lb (s 43)) w3b.heap.size lm nm (o : Int) (R : Int) (R : Int) (L : Int)) ∧ (d 7 = true → PqM W (s 12) (lb (s 45)) w3b.heap.size lm nm (o2 : Int) (R : Int) (C : Int) (L2 : Int)) ∧ (d 6 = true → d 4 = true) ∧ (d 7 = true → d 5 = true) ∧ (d 4 = true → d 5 = true → s 11 ≠ s 12) ∧ (d 1 = true → d 3 = true → lb (s 43) ≠ lb (s 45)) ∧ (d 6 = true → d 1 = true) ∧ (d 7 = true → d 3 = true) ∧ Below w3b.heap.size w3b W)
    rfl (by kernel_rfl) ?_ ?_ ?_
  · exact ⟨by simp, by simp, by simp, by simp, by simp, by simp, by simp, by simp, by simp, by simp, by simp, by simp, by simp, by simp, (Below.refl _ _).drew⟩
  · refine ⟨?_, ?_, ?_, ?_, ?_, ?_, ?_, ?_, trivial⟩
    all_goals
      intro d s W hJ hfr hd hdep
      simp only [List.mem_cons, forall_eq_or_imp, List.not_mem_nil, false_implies, implies_true, and_true, Region.binds] at hdep
      have f7 := hfr 7 (by decide)
      have f8 := hfr 8 (by decide)
      simp at f7 f8 hdep
      obtain ⟨h0, h1, h2, h3, h4, h5, h6, h7, x0, x1, x2, x3, x4, x5, hT⟩ := hJ
    · as_aux_lemma =>
        unfold OpSteps
        obtain ⟨p0, p1, p2, p3, p4⟩ := cells5 (Hm4.out.below hT Hm4.out.lt)
        simp [go_sem, evS, f7, p0, p1, p2, p3, p4]
        exact ⟨fun _ => by simp [sput], fun h => by simpa [sput] using h1 (by simpa [did] using h), kpw h2, fun h => by simpa [sput] using h3 (by simpa [did] using h), fun h => by simpa [sput] using h4 (by simpa [did] using h), fun h => by simpa [sput] using h5 (by simpa [did] using h), fun h => by simpa [sput] using h6 (by simpa [did] using h), fun h => by simpa [sput] using h7 (by simpa [did] using h), by simpa [sput, did] using x0, by simpa [sput, did] using x1, by simpa [sput, did] using x2, by simpa [sput, did] using x3, by simpa [sput, did] using x4, by simpa [sput, did] using x5, hT⟩
    · as_aux_lemma =>
        have g0 := h0 (by simp [hdep])
        unfold OpSteps
        simp [go_sem, evS, g0]
        refine (HApm.out W (below_nx HB4.out hT)).mono ?_
        rintro e W' ⟨g9, c9, rfl, ho, hg, hb⟩
        refine ⟨_, rfl, ?_⟩
        exact ⟨kpw h0, fun _ => ⟨g9, c9, by simp [sput], ho, Nat.le_trans hT.size hg⟩, kpw h2, fun h => by simpa [sput] using (h3 (by simpa [did] using h)).below hb, fun h => by simpa [sput] using (h4 (by simpa [did] using h)).below hb, fun h => by simpa [sput] using (h5 (by simpa [did] using h)).below hb, fun h => by have := x4 (by simpa [did] using h); simp [hd] at this, fun h => by simpa [sput] using (h7 (by simpa [did] using h)).below hb, by simpa [sput, did] using x0, by simpa [sput, did] using x1, by simpa [sput, did] using x2, fun _ e3 => by have hq := (h3 (by simpa [did] using e3)).lb_lt; simp [sput, lb_mat]; omega, fun _ => by simp [did], by simpa [sput, did] using x5, below_nx hT hb⟩
    · as_aux_lemma =>
        unfold OpSteps
        obtain ⟨p0, p1, p2, p3, p4⟩ := cells5 (Hx4.out.below hT Hx4.out.lt)
        simp [go_sem, evS, f8, p0, p1, p2, p3, p4]
        exact ⟨kpw h0, fun h => by simpa [sput] using h1 (by simpa [did] using h), fun _ => by simp [sput], fun h => by simpa [sput] using h3 (by simpa [did] using h), fun h => by simpa [sput] using h4 (by simpa [did] using h), fun h => by simpa [sput] using h5 (by simpa [did] using h), fun h => by simpa [sput] using h6 (by simpa [did] using h), fun h => by simpa [sput] using h7 (by simpa [did] using h), by simpa [sput, did] using x0, by simpa [sput, did] using x1, by simpa [sput, did] using x2, by simpa [sput, did] using x3, by simpa [sput, did] using x4, by simpa [sput, did] using x5, hT⟩
    · as_aux_lemma =>
        have g2 := h2 (by simp [hdep])
        unfold OpSteps
        simp [go_sem, evS, g2]
        refine (HApx.out W (below_nx HB4.out hT)).mono ?_
        rintro e W' ⟨g9, c9, rfl, ho, hg, hb⟩
        refine ⟨_, rfl, ?_⟩
        exact ⟨kpw h0, fun h => by simpa [sput] using (h1 (by simpa [did] using h)).below hb, kpw h2, fun _ => ⟨g9, c9, by simp [sput], ho, Nat.le_trans hT.size hg⟩, fun h => by simpa [sput] using (h4 (by simpa [did] using h)).below hb, fun h => by simpa [sput] using (h5 (by simpa [did] using h)).below hb, fun h => by simpa [sput] using (h6 (by simpa [did] using h)).below hb, fun h => by have := x5 (by simpa [did] using h); simp [hd] at this, by simpa [sput, did] using x0, by simpa [sput, did] using x1, by simpa [sput, did] using x2, fun e1 _ => by have hq := (h1 (by simpa [did] using e1)).lb_lt; simp [sput, lb_mat]; omega, by simpa [sput, did] using x4, fun _ => by simp [did], below_nx hT hb⟩
    · as_aux_lemma =>
        unfold OpSteps
        simp [go_sem, evS]
        exact ⟨kpw h0, fun h => by simpa [sput] using (h1 (by simpa [did] using h)).below below_one, kpw h2, fun h => by simpa [sput] using (h3 (by simpa [did] using h)).below below_one, fun _ => ⟨W.heap.size, _, _, _, _, _, by simp [sput], Blk.new W _ _, hT.size⟩, fun h => by simpa [sput] using (h5 (by simpa [did] using h)).below below_one, fun h => by have := x0 (by simpa [did] using h); simp [hd] at this, fun h => by simpa [sput] using (h7 (by simpa [did] using h)).below below_one, fun _ => by simp [did], by simpa [sput, did] using x1, fun _ e8 => by have hq := (h5 (by simpa [did] using e8)).new_ne; simp [sput]; exact fun e => hq e.symm, by simpa [sput, did] using x3, by simpa [sput, did] using x4, by simpa [sput, did] using x5, below_al hT⟩
    · as_aux_lemma =>
        unfold OpSteps
        simp [go_sem, evS]
        exact ⟨kpw h0, fun h => by simpa [sput] using (h1 (by simpa [did] using h)).below below_one, kpw h2, fun h => by simpa [sput] using (h3 (by simpa [did] using h)).below below_one, fun h => by simpa [sput] using (h4 (by simpa [did] using h)).below below_one, fun _ => ⟨W.heap.size, _, _, _, _, _, by simp [sput], Blk.new W _ _, hT.size⟩, fun h => by simpa [sput] using (h6 (by simpa [did] using h)).below below_one, fun h => by have := x1 (by simpa [did] using h); simp [hd] at this, by simpa [sput, did] using x0, fun _ => by simp [did], fun e7 _ => by have hq := (h4 (by simpa [did] using e7)).new_ne; simp [sput]; exact hq, by simpa [sput, did] using x3, by simpa [sput, did] using x4, by simpa [sput, did] using x5, below_al hT⟩
    · as_aux_lemma =>
        have g4 := h4 (by simp [hdep])
        have g1 := h1 (by simp [hdep])
        unfold OpSteps
        obtain ⟨p9, z0, z1, z2, z3, z4, gp, hB9, hlo⟩ := g4
        obtain ⟨g9, c9, gv, gO, gz⟩ := g1
        have e7 : d 4 = true := by simp [hdep]
        obtain ⟨fr0, fr1, fr2, fr3, fr4⟩ := frozen5w hB9
        obtain ⟨k0, k1, k2, k3, k4⟩ := cells5 hB9
        have hfar : ∀ k9, k9 ≠ p9 → _ := fun k9 (hk9 : k9 ≠ p9) => heap_sets5 (w := W) hk9 (.slice (some ⟨g9, 0, none⟩) nm c9) (.int .i64 (o : Int)) (.int .i64 (R : Int)) (.int .i64 (R : Int)) (.int .i64 (L : Int))
        simp [go_sem, evS, gp, gv, fr0, fr1, fr2, fr3, fr4, k0, k1, k2, k3, k4]
        exact ⟨kpw h0, fun h => by simpa [sput] using (h1 (by simpa [did] using h)).far hB9 (by decide) hfar, kpw h2, fun h => by simpa [sput] using (h3 (by simpa [did] using h)).far hB9 (by decide) hfar, fun h => ⟨p9, _, _, _, _, _, by simpa [sput] using gp, Blk.store5 hB9 _ _ _ _ _, hlo⟩, fun h => by simpa [sput] using (h5 (by simpa [did] using h)).far (fun e => x2 e7 (by simpa [did] using h) (gp.trans e.symm)) hfar, fun _ => by simp only [sput, gv, lb_mat]; exact ⟨p9, c9, by simpa using gp, Blk.store5 hB9 _ _ _ _ _, own_off gO (own_ne gO hB9 (by decide)) hfar, hlo, gz⟩, fun h => by simpa [sput] using (h7 (by simpa [did] using h)).far hB9 (by decide) (fun e => x2 e7 (x1 (by simpa [did] using h)) (gp.trans e.symm)) hfar, fun _ => by simp [did, hdep], by simpa [sput, did] using x1, by simpa [sput, did] using x2, by simpa [sput, did] using x3, fun _ => by simp [did, hdep], by simpa [sput, did] using x5, below_sets5 hT hlo _ _ _ _ _⟩
    · as_aux_lemma =>
        have g5 := h5 (by simp [hdep])
        have g3 := h3 (by simp [hdep])
        unfold OpSteps
        obtain ⟨p9, z0, z1, z2, z3, z4, gp, hB9, hlo⟩ := g5
        obtain ⟨g9, c9, gv, gO, gz⟩ := g3
        have e7 : d 5 = true := by simp [hdep]
        obtain ⟨fr0, fr1, fr2, fr3, fr4⟩ := frozen5w hB9
        obtain ⟨k0, k1, k2, k3, k4⟩ := cells5 hB9
        have hfar : ∀ k9, k9 ≠ p9 → _ := fun k9 (hk9 : k9 ≠ p9) => heap_sets5 (w := W) hk9 (.slice (some ⟨g9, 0, none⟩) nm c9) (.int .i64 (o2 : Int)) (.int .i64 (R : Int)) (.int .i64 (C : Int)) (.int .i64 (L2 : Int))
        simp [go_sem, evS, gp, gv, fr0, fr1, fr2, fr3, fr4, k0, k1, k2, k3, k4]
        exact ⟨kpw h0, fun h => by simpa [sput] using (h1 (by simpa [did] using h)).far hB9 (by decide) hfar, kpw h2, fun h => by simpa [sput] using (h3 (by simpa [did] using h)).far hB9 (by decide) hfar, fun h => by simpa [sput] using (h4 (by simpa [did] using h)).far (fun e => x2 (by simpa [did] using h) e7 (e.trans gp.symm)) hfar, fun h => ⟨p9, _, _, _, _, _, by simpa [sput] using gp, Blk.store5 hB9 _ _ _ _ _, hlo⟩, fun h => by simpa [sput] using (h6 (by simpa [did] using h)).far hB9 (by decide) (fun e => x2 (x0 (by simpa [did] using h)) e7 (e.trans gp.symm)) hfar, fun _ => by simp only [sput, gv, lb_mat]; exact ⟨p9, c9, by simpa using gp, Blk.store5 hB9 _ _ _ _ _, own_off gO (own_ne gO hB9 (by decide)) hfar, hlo, gz⟩, by simpa [sput, did] using x0, fun _ => by simp [did, hdep], by simpa [sput, did] using x2, by simpa [sput, did] using x3, by simpa [sput, did] using x4, fun _ => by simp [did, hdep], below_sets5 hT hlo _ _ _ _ _⟩
  intro d s W hJ hd
  obtain ⟨h0, h1, h2, h3, h4, h5, h6, h7, x0, x1, x2, x3, x4, x5, hT⟩ := hJ
  have hgx := x3 (hd 1 (by decide)) (hd 3 (by decide))
  have h6' := h6 (hd 6 (by decide))
  have h7' := h7 (hd 7 (by decide))
  have hpx := x2 (hd 4 (by decide)) (hd 5 (by decide))
  clear h0 h1 h2 h3 h4 h5 h6 h7 x0 x1 x2 x3 x4 x5 hd
  generalize lb (s 43) = gn at *
  generalize lb (s 45) = gp at *
  obtain ⟨pn, cn, hs11, hBn, hOn, hnl, hgl⟩ := h6'
  obtain ⟨pp, cp9, hs12, hBp, hOp, hpl, hgl2⟩ := h7'
  have hnp : pn ≠ pp := fun e => hpx (by rw [hs11, hs12, e])
  have hb : Below w3b.heap.size w3b W := hT
  clear hpx hT
  simp [setAll, hs11, hs12]
  clear hs11 hs12
  generalize s 42 = s42
  generalize s 43 = s43
  generalize s 44 = s44
  generalize s 45 = s45
  have hy5 : w.heap.size + 1 < w3b.heap.size := Hx4.out.lt
  have HNe := Lib.hid (show gp ≠ gn ∧ pn ≠ pp ∧ w.heap.size + 1 < pn ∧ w.heap.size + 1 < pp ∧ w.heap.size + 1 < gn ∧ w.heap.size + 1 < gp from by refine ⟨fun e => hgx e.symm, hnp, by omega, by omega, by omega, by omega⟩)
  clear hy5 hnp hgx hnl hgl hpl hgl2
  generalize hW6 : W = w6 at *
  clear hW6
  have Hm5 := Lib.hid (Hm4.out.nxt hb)
  have Hx5 := Lib.hid (Hx4.out.nxt hb)
  have HB5 := Lib.hid (below_nx HB4.out hb)
  clear hb
  clear m0 m1 m2 m3 m4 x0 x1 x2 x3 x4
  obtain ⟨m0, m1, m2, m3, m4⟩ := cells5 Hm5.out
  obtain ⟨x0, x1, x2, x3, x4⟩ := cells5 Hx5.out
  clear Hm4 Hx4 HB4
  have Hn5 := Lib.hid hBn
  have Hp5 := Lib.hid hBp
  have Hu5 := Lib.hid hOn
  have Hv5 := Lib.hid hOp
  clear hBn hBp hOn hOp
  clear m0 m1 m2 m3 m4 x0 x1 x2 x3 x4
  clear HApm HApx HGr HGs
  obtain ⟨m0, m1, m2, m3, m4⟩ := cells5 Hm5.out
  obtain ⟨x0, x1, x2, x3, x4⟩ := cells5 Hx5.out
  obtain ⟨n0, n1, n2, n3, n4⟩ := cells5 Hn5.out
  obtain ⟨p0, p1, p2, p3, p4⟩ := cells5 Hp5.out
  obtain ⟨f0, _, _, _, _⟩ := frozen5 Hp5.out
  go_upto_region 11 with fail
  have hb9 : Blk (w6.setCell ⟨pp, 0, none⟩ (.slice (some ⟨gn, 0, none⟩) nm cn)) (pp) 24 #[.slice (some ⟨gn, 0, none⟩) nm cn, .int .i64 (o2 : Int), .int .i64 (R : Int), .int .i64 (C : Int), .int .i64 (L2 : Int)] := by simpa using Hp5.out.set_ 0 (.slice (some ⟨gn, 0, none⟩) nm cn)
  have Hm6 := Lib.hid (Hm5.out.other (p := ⟨pp, 0, none⟩) ((by have := HNe.out; simp; omega)) (.slice (some ⟨gn, 0, none⟩) nm cn))
  have Hx6 := Lib.hid (Hx5.out.other (p := ⟨pp, 0, none⟩) ((by have := HNe.out; simp; omega)) (.slice (some ⟨gn, 0, none⟩) nm cn))
  have Hn6 := Lib.hid (Hn5.out.other (p := ⟨pp, 0, none⟩) ((by have := HNe.out; simp; omega)) (.slice (some ⟨gn, 0, none⟩) nm cn))
  have Hu6 := Lib.hid (Hu5.out.other (p := ⟨pp, 0, none⟩) (own_ne Hu5.out Hp5.out (by decide)) (.slice (some ⟨gn, 0, none⟩) nm cn))
  have Hv6 := Lib.hid (Hv5.out.other (p := ⟨pp, 0, none⟩) (own_ne Hv5.out Hp5.out (by decide)) (.slice (some ⟨gn, 0, none⟩) nm cn))
  have Hp6 := Lib.hid hb9
  have HB6 := Lib.hid (HB5.out.setCell (p := ⟨pp, 0, none⟩) ((by have := HNe.out; simp; omega)) (.slice (some ⟨gn, 0, none⟩) nm cn))
  clear m0 m1 m2 m3 m4 x0 x1 x2 x3 x4 n0 n1 n2 n3 n4 p0 p1 p2 p3 p4
  clear hb9 f0
  generalize (w6.setCell ⟨pp, 0, none⟩ (.slice (some ⟨gn, 0, none⟩) nm cn)) = w7 at *
  obtain ⟨m0, m1, m2, m3, m4⟩ := cells5 Hm6.out
  obtain ⟨x0, x1, x2, x3, x4⟩ := cells5 Hx6.out
  obtain ⟨n0, n1, n2, n3, n4⟩ := cells5 Hn6.out
  obtain ⟨p0, p1, p2, p3, p4⟩ := cells5 Hp6.out
  clear Hm5 Hx5 Hn5 Hp5 Hu5 Hv5 HB5
  go_wp2_with fail
  refine (HPr.out _ gn cn Hu6.out).mono ?_
  rintro e w8 ⟨rfl, l1, hi1, ho1, hc⟩
  have Hm7 := Lib.hid (hc.blk (fun h => own_ne Hu6.out Hm6.out (by decide) (List.mem_singleton.1 h).symm) Hm6.out)
  have Hx7 := Lib.hid (hc.blk (fun h => own_ne Hu6.out Hx6.out (by decide) (List.mem_singleton.1 h).symm) Hx6.out)
  have Hn7 := Lib.hid (hc.blk (fun h => own_ne Hu6.out Hn6.out (by decide) (List.mem_singleton.1 h).symm) Hn6.out)
  have Hp7 := Lib.hid (hc.blk (fun h => own_ne Hu6.out Hp6.out (by decide) (List.mem_singleton.1 h).symm) Hp6.out)
  have Hu7 := Lib.hid ho1
  have HI := Lib.hid hi1
  have Hv7 := Lib.hid (hc.own (fun h => HNe.out.1 (List.mem_singleton.1 h)) Hv6.out)
  have HB7 := Lib.hid (hc.below HB6.out HB6.out.size (fun x hx => by have := HNe.out; simp at hx; omega))
  clear ho1 hi1 hc HPr
  clear Hm6 Hx6 Hn6 Hp6 Hu6 Hv6 HB6
  clear m0 m1 m2 m3 m4 x0 x1 x2 x3 x4 n0 n1 n2 n3 n4 p0 p1 p2 p3 p4
  obtain ⟨m0, m1, m2, m3, m4⟩ := cells5 Hm7.out
  obtain ⟨x0, x1, x2, x3, x4⟩ := cells5 Hx7.out
  obtain ⟨n0, n1, n2, n3, n4⟩ := cells5 Hn7.out
  obtain ⟨p0, p1, p2, p3, p4⟩ := cells5 Hp7.out
  go_upto_region 14 with fail
  have HLt := Lib.hid (show pn < w8.heap.size ∧ pp < w8.heap.size from ⟨Hn7.out.lt, Hp7.out.lt⟩)
  have hba := below_one (W := w8) (o := (.cells #[.int .i64 0, .int .i64 0, .slice none 0 0] 31))
  have HTn := Lib.hid (Blk.new w8 31 #[.int .i64 0, .int .i64 0, .slice none 0 0])
  have Hm8 := Lib.hid (Hm7.out.nxt hba)
  have Hx8 := Lib.hid (Hx7.out.nxt hba)
  have Hn8 := Lib.hid (Hn7.out.nxt hba)
  have Hp8 := Lib.hid (Hp7.out.nxt hba)
  have Hu8 := Lib.hid (Hu7.out.nxt hba)
  have Hv8 := Lib.hid (Hv7.out.nxt hba)
  have HB8 := Lib.hid (below_nx HB7.out hba)
  clear hba
  clear m0 m1 m2 m3 m4 x0 x1 x2 x3 x4 n0 n1 n2 n3 n4 p0 p1 p2 p3 p4
  obtain ⟨m0, m1, m2, m3, m4⟩ := cells5 Hm8.out
  obtain ⟨x0, x1, x2, x3, x4⟩ := cells5 Hx8.out
  obtain ⟨n0, n1, n2, n3, n4⟩ := cells5 Hn8.out
  obtain ⟨p0, p1, p2, p3, p4⟩ := cells5 Hp8.out
  clear Hm7 Hx7 Hn7 Hp7 Hu7 Hv7 HB7
  clear m0 m1 m2 m3 m4 x0 x1 x2 x3 x4 n0 n1 n2 n3 n4 p0 p1 p2 p3 p4
  have HZt := Lib.hid (show pn < w8.heap.size ∧ pp < w8.heap.size ∧ w.heap.size + 1 < w8.heap.size from by have h1 := Hn8.out.lt; have h2 := HNe.out; have h3 := HTn.out.lt; simp at h1 h3; exact ⟨HLt.out.1, HLt.out.2, by omega⟩)
  generalize hzs : w8.heap.size = zt at *
  generalize w8.alloc (.cells #[.int .i64 0, .int .i64 0, .slice none 0 0] 31) = wz at *
  clear hzs HLt
  have Ht8 := HTn
  clear HTn
  obtain ⟨m0, m1, m2, m3, m4⟩ := cells5 Hm8.out
  obtain ⟨x0, x1, x2, x3, x4⟩ := cells5 Hx8.out
  obtain ⟨n0, n1, n2, n3, n4⟩ := cells5 Hn8.out
  obtain ⟨p0, p1, p2, p3, p4⟩ := cells5 Hp8.out
  obtain ⟨t0, t1, t2⟩ := cells3v Ht8.out
  go_wp2_with fail
  refine (HGm.out _).mono ?_
  rintro e we0 ⟨rfl, hb⟩
  have Hm9 := Lib.hid (Hm8.out.nxt hb)
  have Hx9 := Lib.hid (Hx8.out.nxt hb)
  have Hn9 := Lib.hid (Hn8.out.nxt hb)
  have Hp9 := Lib.hid (Hp8.out.nxt hb)
  have Ht9 := Lib.hid (Ht8.out.nxt hb)
  have Hu9 := Lib.hid (Hu8.out.nxt hb)
  have Hv9 := Lib.hid (Hv8.out.nxt hb)
  have HB9 := Lib.hid (below_nx HB8.out hb)
  clear hb
  clear m0 m1 m2 m3 m4 x0 x1 x2 x3 x4 n0 n1 n2 n3 n4 p0 p1 p2 p3 p4 t0 t1 t2
  obtain ⟨m0, m1, m2, m3, m4⟩ := cells5 Hm9.out
  obtain ⟨x0, x1, x2, x3, x4⟩ := cells5 Hx9.out
  obtain ⟨n0, n1, n2, n3, n4⟩ := cells5 Hn9.out
  obtain ⟨p0, p1, p2, p3, p4⟩ := cells5 Hp9.out
  obtain ⟨t0, t1, t2⟩ := cells3v Ht9.out
  clear Hm8 Hx8 Hn8 Hp8 Ht8 Hu8 Hv8 HB8
  go_wp2_with fail
  refine (HGy.out _).mono ?_
  rintro e we1 ⟨rfl, hb⟩
  have Hm10 := Lib.hid (Hm9.out.nxt hb)
  have Hx10 := Lib.hid (Hx9.out.nxt hb)
  have Hn10 := Lib.hid (Hn9.out.nxt hb)
  have Hp10 := Lib.hid (Hp9.out.nxt hb)
  have Ht10 := Lib.hid (Ht9.out.nxt hb)
  have Hu10 := Lib.hid (Hu9.out.nxt hb)
  have Hv10 := Lib.hid (Hv9.out.nxt hb)
  have HB10 := Lib.hid (below_nx HB9.out hb)
  clear hb
  clear m0 m1 m2 m3 m4 x0 x1 x2 x3 x4 n0 n1 n2 n3 n4 p0 p1 p2 p3 p4 t0 t1 t2
  obtain ⟨m0, m1, m2, m3, m4⟩ := cells5 Hm10.out
  obtain ⟨x0, x1, x2, x3, x4⟩ := cells5 Hx10.out
  obtain ⟨n0, n1, n2, n3, n4⟩ := cells5 Hn10.out
  obtain ⟨p0, p1, p2, p3, p4⟩ := cells5 Hp10.out
  obtain ⟨t0, t1, t2⟩ := cells3v Ht10.out
  clear Hm9 Hx9 Hn9 Hp9 Ht9 Hu9 Hv9 HB9
  go_wp2_with fail
  refine wp_region_inv [89, 90, 91, 92, 93, 94, 88, 95, 96, 16, 17] (fun d s W => (d 0 = true → s 89 = .int .i64 (kd : Int)) ∧ (d 1 = true → s 90 = .agg #[.slice Am nm cm, .int .i64 (o : Int), .int .i64 (R : Int), .int .i64 (R : Int), .int .i64 (L : Int)]) ∧ (d 2 = true → (d 10 = false → TbG W (s 91) (Tab lm o R R L NM) R R NM)) ∧ (d 3 = true → s 92 = .agg #[.slice Am nm cm, .int .i64 (o2 : Int), .int .i64 (R : Int), .int .i64 (C : Int), .int .i64 (L2 : Int)]) ∧ (d 4 = true → (d 10 = false → TbG W (s 93) (Tab lm o2 R C L2 N) R C N)) ∧ (d 5 = true → TuM W (s 94) (TsTb R C N F) R C N true) ∧ (d 6 = true → TuM W (s 88) (TsTb R C N F) R C N true) ∧ (d 7 = true → ToM W (s 95) (TsTb R C N F) R C N) ∧ (d 8 = true → s 96 = .bool true) ∧ (d 9 = true → NbT W (s 16) we1.heap.size) ∧ (d 10 = true → PqT W (s 16) we1.heap.size (TsTb R C N F) R C N) ∧ (d 11 = true → s 17 = .bool true) ∧ (d 10 = true → d 9 = true) ∧ (d 10 = true → d 5 = true) ∧ (d 7 = true → d 5 = true) ∧ (d 6 = true → d 5 = true) ∧ Below we1.heap.size we1 W)
    rfl (by kernel_rfl) ?_ ?_ ?_
  · exact ⟨by simp, by simp, by simp, by simp, by simp, by simp, by simp, by simp, by simp, by simp, by simp, by simp, by simp, by simp, by simp, by simp, (Below.refl _ _).drew⟩
  · refine ⟨?_, ?_, ?_, ?_, ?_, ?_, ?_, ?_, ?_, ?_, ?_, ?_, trivial⟩
    all_goals
      intro d s W hJ hfr hd hdep
      simp only [List.mem_cons, forall_eq_or_imp, List.not_mem_nil, false_implies, implies_true, and_true, Region.binds] at hdep
      have f0 := hfr 0 (by decide)
      have f7 := hfr 7 (by decide)
      have f8 := hfr 8 (by decide)
      simp at f0 f7 f8 hdep
      obtain ⟨h0, h1, h2, h3, h4, h5, h6, h7, h8, h9, h10, h11, x0, x1, x2, x3, hT⟩ := hJ
    · as_aux_lemma =>
        unfold OpSteps
        simp [go_sem, evS, f0]
        exact ⟨fun _ => by simp [sput], kpw h1, fun h e => by simpa [sput] using h2 (by simpa [did] using h) (by simpa [did] using e), kpw h3, fun h e => by simpa [sput] using h4 (by simpa [did] using h) (by simpa [did] using e), fun h => by simpa [sput] using h5 (by simpa [did] using h), fun h => by simpa [sput] using h6 (by simpa [did] using h), fun h => by simpa [sput] using h7 (by simpa [did] using h), kpw h8, fun h => by simpa [sput] using h9 (by simpa [did] using h), fun h => by simpa [sput] using h10 (by simpa [did] using h), kpw h11, by simpa [sput, did] using x0, by simpa [sput, did] using x1, by simpa [sput, did] using x2, by simpa [sput, did] using x3, hT⟩
    · as_aux_lemma =>
        unfold OpSteps
        obtain ⟨p0, p1, p2, p3, p4⟩ := cells5 (Hm10.out.below hT Hm10.out.lt)
        simp [go_sem, evS, f7, p0, p1, p2, p3, p4]
        exact ⟨kpw h0, fun _ => by simp [sput], fun h e => by simpa [sput] using h2 (by simpa [did] using h) (by simpa [did] using e), kpw h3, fun h e => by simpa [sput] using h4 (by simpa [did] using h) (by simpa [did] using e), fun h => by simpa [sput] using h5 (by simpa [did] using h), fun h => by simpa [sput] using h6 (by simpa [did] using h), fun h => by simpa [sput] using h7 (by simpa [did] using h), kpw h8, fun h => by simpa [sput] using h9 (by simpa [did] using h), fun h => by simpa [sput] using h10 (by simpa [did] using h), kpw h11, by simpa [sput, did] using x0, by simpa [sput, did] using x1, by simpa [sput, did] using x2, by simpa [sput, did] using x3, hT⟩
    · as_aux_lemma =>
        have g1 := h1 (by simp [hdep])
        unfold OpSteps
        simp [go_sem, evS, g1]
        refine (HOfm.out W (below_nx HB10.out hT)).mono ?_
        rintro e W' ⟨q9, T9, rfl, hS9, hr9, hb⟩
        refine ⟨_, rfl, ?_⟩
        exact ⟨kpw h0, kpw h1, fun _ => fun _ => ⟨q9, NM, T9, by simp [sput], hS9, hr9⟩, kpw h3, fun h e => by simpa [sput] using (h4 (by simpa [did] using h) (by simpa [did] using e)).below hb, fun h => by simpa [sput] using (h5 (by simpa [did] using h)).below hb, fun h => by simpa [sput] using (h6 (by simpa [did] using h)).below hb, fun h => by simpa [sput] using (h7 (by simpa [did] using h)).below hb, kpw h8, fun h => by simpa [sput] using (h9 (by simpa [did] using h)).below hb, fun h => by simpa [sput] using (h10 (by simpa [did] using h)).below hb, kpw h11, by simpa [sput, did] using x0, by simpa [sput, did] using x1, by simpa [sput, did] using x2, by simpa [sput, did] using x3, below_nx hT hb⟩
    · as_aux_lemma =>
        unfold OpSteps
        obtain ⟨p0, p1, p2, p3, p4⟩ := cells5 (Hx10.out.below hT Hx10.out.lt)
        simp [go_sem, evS, f8, p0, p1, p2, p3, p4]
        exact ⟨kpw h0, kpw h1, fun h e => by simpa [sput] using h2 (by simpa [did] using h) (by simpa [did] using e), fun _ => by simp [sput], fun h e => by simpa [sput] using h4 (by simpa [did] using h) (by simpa [did] using e), fun h => by simpa [sput] using h5 (by simpa [did] using h), fun h => by simpa [sput] using h6 (by simpa [did] using h), fun h => by simpa [sput] using h7 (by simpa [did] using h), kpw h8, fun h => by simpa [sput] using h9 (by simpa [did] using h), fun h => by simpa [sput] using h10 (by simpa [did] using h), kpw h11, by simpa [sput, did] using x0, by simpa [sput, did] using x1, by simpa [sput, did] using x2, by simpa [sput, did] using x3, hT⟩
    · as_aux_lemma =>
        have g3 := h3 (by simp [hdep])
        unfold OpSteps
        simp [go_sem, evS, g3]
        refine (HOfx.out W (below_nx HB10.out hT)).mono ?_
        rintro e W' ⟨q9, T9, rfl, hS9, hr9, hb⟩
        refine ⟨_, rfl, ?_⟩
        exact ⟨kpw h0, kpw h1, fun h e => by simpa [sput] using (h2 (by simpa [did] using h) (by simpa [did] using e)).below hb, kpw h3, fun _ => fun _ => ⟨q9, N, T9, by simp [sput], hS9, hr9⟩, fun h => by simpa [sput] using (h5 (by simpa [did] using h)).below hb, fun h => by simpa [sput] using (h6 (by simpa [did] using h)).below hb, fun h => by simpa [sput] using (h7 (by simpa [did] using h)).below hb, kpw h8, fun h => by simpa [sput] using (h9 (by simpa [did] using h)).below hb, fun h => by simpa [sput] using (h10 (by simpa [did] using h)).below hb, kpw h11, by simpa [sput, did] using x0, by simpa [sput, did] using x1, by simpa [sput, did] using x2, by simpa [sput, did] using x3, below_nx hT hb⟩
    · as_aux_lemma =>
        have g0 := h0 (by simp [hdep])
        have g2 := h2 (by simp [hdep])
        have g4 := h4 (by simp [hdep])
        unfold OpSteps
        have hl : d 10 = false := by
          cases h : d 10
          · rfl
          · have := x1 h; simp [hd] at this
        obtain ⟨q8, c8, T8, gv2, gS2, gR2⟩ := g2 hl
        obtain ⟨q7, c7, T7, gv4, gS4, gR4⟩ := g4 hl
        simp [go_sem, evS, g0, gv2, gv4]
        refine (HRs.out q8 c8 q7 c7 T8 T7 W gS2 gS4 gR2 gR4).mono ?_
        rintro e W' ⟨g9, c9, T9, rfl, hS9, hO9, hb⟩
        refine ⟨_, rfl, ?_⟩
        exact ⟨kpw h0, kpw h1, fun h e => by simpa [sput] using (h2 (by simpa [did] using h) (by simpa [did] using e)).below hb, kpw h3, fun h e => by simpa [sput] using (h4 (by simpa [did] using h) (by simpa [did] using e)).below hb, fun _ => ⟨g9, c9, T9, by simp [sput], hS9, hO9⟩, fun h => by simpa [sput] using (h6 (by simpa [did] using h)).below hb, fun h => by simpa [sput] using (h7 (by simpa [did] using h)).below hb, kpw h8, fun h => by simpa [sput] using (h9 (by simpa [did] using h)).below hb, fun h => by simpa [sput] using (h10 (by simpa [did] using h)).below hb, kpw h11, by simpa [sput, did] using x0, fun _ => by simp [did], fun _ => by simp [did], fun _ => by simp [did], below_nx hT hb⟩
    · as_aux_lemma =>
        have g5 := h5 (by simp [hdep])
        unfold OpSteps
        simp [go_sem, evS, g5]
        exact ⟨kpw h0, kpw h1, fun h e => by simpa [sput] using h2 (by simpa [did] using h) (by simpa [did] using e), kpw h3, fun h e => by simpa [sput] using h4 (by simpa [did] using h) (by simpa [did] using e), fun h => by simpa [sput] using h5 (by simpa [did] using h), fun _ => by simpa [sput] using g5, fun h => by simpa [sput] using h7 (by simpa [did] using h), kpw h8, fun h => by simpa [sput] using h9 (by simpa [did] using h), fun h => by simpa [sput] using h10 (by simpa [did] using h), kpw h11, by simpa [sput, did] using x0, by simpa [sput, did] using x1, by simpa [sput, did] using x2, fun _ => by simp [did, hdep], hT⟩
    · as_aux_lemma =>
        have g6 := h6 (by simp [hdep])
        unfold OpSteps
        obtain ⟨g9, c9, T9, gv, gS9, gO9⟩ := g6
        simp [go_sem, evS, gv]
        exact ⟨kpw h0, kpw h1, fun h e => by simpa [sput] using h2 (by simpa [did] using h) (by simpa [did] using e), kpw h3, fun h e => by simpa [sput] using h4 (by simpa [did] using h) (by simpa [did] using e), fun h => by simpa [sput] using h5 (by simpa [did] using h), fun h => by simpa [sput] using h6 (by simpa [did] using h), fun _ => ⟨g9, c9, T9, by simp [sput], gS9, gO9⟩, kpw h8, fun h => by simpa [sput] using h9 (by simpa [did] using h), fun h => by simpa [sput] using h10 (by simpa [did] using h), kpw h11, by simpa [sput, did] using x0, by simpa [sput, did] using x1, fun _ => by simp [did, x3 (by simp [hdep])], by simpa [sput, did] using x3, hT⟩
    · as_aux_lemma =>
        have g6 := h6 (by simp [hdep])
        unfold OpSteps
        obtain ⟨g9, c9, T9, gv, gS9, gO9⟩ := g6
        simp [go_sem, evS, gv]
        exact ⟨kpw h0, kpw h1, fun h e => by simpa [sput] using h2 (by simpa [did] using h) (by simpa [did] using e), kpw h3, fun h e => by simpa [sput] using h4 (by simpa [did] using h) (by simpa [did] using e), fun h => by simpa [sput] using h5 (by simpa [did] using h), fun h => by simpa [sput] using h6 (by simpa [did] using h), fun h => by simpa [sput] using h7 (by simpa [did] using h), fun _ => by simp [sput], fun h => by simpa [sput] using h9 (by simpa [did] using h), fun h => by simpa [sput] using h10 (by simpa [did] using h), kpw h11, by simpa [sput, did] using x0, by simpa [sput, did] using x1, by simpa [sput, did] using x2, by simpa [sput, did] using x3, hT⟩
    · as_aux_lemma =>
        unfold OpSteps
        simp [go_sem, evS]
        exact ⟨kpw h0, kpw h1, fun h e => by simpa [sput] using (h2 (by simpa [did] using h) (by simpa [did] using e)).below below_one, kpw h3, fun h e => by simpa [sput] using (h4 (by simpa [did] using h) (by simpa [did] using e)).below below_one, fun h => by simpa [sput] using (h5 (by simpa [did] using h)).below below_one, fun h => by simpa [sput] using (h6 (by simpa [did] using h)).below below_one, fun h => by simpa [sput] using (h7 (by simpa [did] using h)).below below_one, kpw h8, fun _ => ⟨W.heap.size, _, _, _, by simp [sput], Blk.new W _ _, hT.size⟩, fun h => by have := x0 (by simpa [did] using h); simp [hd] at this, kpw h11, fun _ => by simp [did], by simpa [sput, did] using x1, by simpa [sput, did] using x2, by simpa [sput, did] using x3, below_al hT⟩
    · as_aux_lemma =>
        have g9 := h9 (by simp [hdep])
        have g7 := h7 (by simp [hdep])
        unfold OpSteps
        obtain ⟨p9, z0, z1, z2, gp, hB9, hlo⟩ := g9
        obtain ⟨g9, c9, T9, gv, gS9, gO9⟩ := g7
        obtain ⟨fr0, fr1, fr2⟩ := frozen3v hB9
        obtain ⟨k0, k1, k2⟩ := cells3v hB9
        have hfar : ∀ k9, k9 ≠ p9 → _ := fun k9 (hk9 : k9 ≠ p9) => heap_sets3 (w := W) hk9 (.int .i64 (R : Int)) (.int .i64 (C : Int)) (.slice (some ⟨g9, 0, none⟩) N c9)
        simp [go_sem, evS, gp, gv, fr0, fr1, fr2, k0, k1, k2]
        exact ⟨kpw h0, kpw h1, fun h e => by simp [did] at e, kpw h3, fun h e => by simp [did] at e, fun h => by simpa [sput] using (h5 (by simpa [did] using h)).far hB9 (by decide) hfar, fun h => by simpa [sput] using (h6 (by simpa [did] using h)).far hB9 (by decide) hfar, fun h => by simpa [sput] using (h7 (by simpa [did] using h)).far hB9 (by decide) hfar, kpw h8, fun h => ⟨p9, _, _, _, by simpa [sput] using gp, Blk.store3v hB9 _ _ _, hlo⟩, fun _ => ⟨p9, g9, c9, T9, by simpa [sput] using gp, Blk.store3v hB9 _ _ _, gS9, own_off gO9 (own_ne gO9 hB9 (by decide)) hfar, hlo⟩, kpw h11, fun _ => by simp [did, hdep], fun _ => by simp [did, x2 (by simp [hdep])], by simpa [sput, did] using x2, by simpa [sput, did] using x3, below3g hT hlo _ _ _⟩
    · as_aux_lemma =>
        have g8 := h8 (by simp [hdep])
        unfold OpSteps
        simp [go_sem, evS, g8]
        exact ⟨kpw h0, kpw h1, fun h e => by simpa [sput] using h2 (by simpa [did] using h) (by simpa [did] using e), kpw h3, fun h e => by simpa [sput] using h4 (by simpa [did] using h) (by simpa [did] using e), fun h => by simpa [sput] using h5 (by simpa [did] using h), fun h => by simpa [sput] using h6 (by simpa [did] using h), fun h => by simpa [sput] using h7 (by simpa [did] using h), kpw h8, fun h => by simpa [sput] using h9 (by simpa [did] using h), fun h => by simpa [sput] using h10 (by simpa [did] using h), fun _ => by simp [sput], by simpa [sput, did] using x0, by simpa [sput, did] using x1, by simpa [sput, did] using x2, by simpa [sput, did] using x3, hT⟩
  intro d s W hJ hd
  obtain ⟨h0, h1, h2, h3, h4, h5, h6, h7, h8, h9, h10, h11, x0, x1, x2, x3, hT⟩ := hJ
  have h10' := h10 (hd 10 (by decide))
  have hs17 := h11 (hd 11 (by decide))
  have hb : Below we1.heap.size we1 W := hT
  clear h0 h1 h2 h3 h4 h5 h6 h7 h8 h9 h10 h11 x0 x1 x2 x3 hT hd
  obtain ⟨p9, g9, c9, T9, hs16, hB9, hS9, hO9, hlo9⟩ := h10'
  simp [setAll, hs17, hs16]
  clear hs17 hs16
  generalize s 89 = s89
  generalize s 90 = s90
  generalize s 91 = s91
  generalize s 92 = s92
  generalize s 93 = s93
  generalize s 94 = s94
  generalize s 88 = s88
  generalize s 95 = s95
  generalize s 96 = s96
  generalize W = wg at *
  have HZp := Lib.hid (show zt < p9 ∧ pn < p9 ∧ pp < p9 ∧ w.heap.size + 1 < p9 from by have h1 := Ht10.out.lt; have h2 := HZt.out; omega)
  have Hm11 := Lib.hid (Hm10.out.nxt hb)
  have Hx11 := Lib.hid (Hx10.out.nxt hb)
  have Hn11 := Lib.hid (Hn10.out.nxt hb)
  have Hp11 := Lib.hid (Hp10.out.nxt hb)
  have Ht11 := Lib.hid (Ht10.out.nxt hb)
  have Hu11 := Lib.hid (Hu10.out.nxt hb)
  have Hv11 := Lib.hid (Hv10.out.nxt hb)
  have HB11 := Lib.hid (below_nx HB10.out hb)
  clear hb
  clear m0 m1 m2 m3 m4 x0 x1 x2 x3 x4 n0 n1 n2 n3 n4 p0 p1 p2 p3 p4 t0 t1 t2
  obtain ⟨m0, m1, m2, m3, m4⟩ := cells5 Hm11.out
  obtain ⟨x0, x1, x2, x3, x4⟩ := cells5 Hx11.out
  obtain ⟨n0, n1, n2, n3, n4⟩ := cells5 Hn11.out
  obtain ⟨p0, p1, p2, p3, p4⟩ := cells5 Hp11.out
  obtain ⟨t0, t1, t2⟩ := cells3v Ht11.out
  clear Hm10 Hx10 Hn10 Hp10 Ht10 Hu10 Hv10 HB10
  have Hr11 := Lib.hid hB9
  have Hy11 := Lib.hid hO9
  have HS9 := Lib.hid hS9
  clear hB9 hO9 hS9 hlo9
  clear m0 m1 m2 m3 m4 x0 x1 x2 x3 x4 n0 n1 n2 n3 n4 p0 p1 p2 p3 p4 t0 t1 t2
  obtain ⟨m0, m1, m2, m3, m4⟩ := cells5 Hm11.out
  obtain ⟨x0, x1, x2, x3, x4⟩ := cells5 Hx11.out
  obtain ⟨n0, n1, n2, n3, n4⟩ := cells5 Hn11.out
  obtain ⟨p0, p1, p2, p3, p4⟩ := cells5 Hp11.out
  obtain ⟨t0, t1, t2⟩ := cells3v Ht11.out
  obtain ⟨r0, r1, r2⟩ := cells3v Hr11.out
  obtain ⟨f0, f1, f2⟩ := frozen3v Ht11.out
  go_upto_region 20 with fail
  have Hm12 := Lib.hid (blk3g Hm11.out (show w.heap.size ≠ zt by have := HZt.out; have := HZp.out; omega) (.int .i64 (R : Int)) (.int .i64 (C : Int)) (.slice (some ⟨g9, 0, none⟩) N c9))
  have Hx12 := Lib.hid (blk3g Hx11.out (show w.heap.size + 1 ≠ zt by have := HZt.out; have := HZp.out; omega) (.int .i64 (R : Int)) (.int .i64 (C : Int)) (.slice (some ⟨g9, 0, none⟩) N c9))
  have Hn12 := Lib.hid (blk3g Hn11.out (show pn ≠ zt by have := HZt.out; have := HZp.out; omega) (.int .i64 (R : Int)) (.int .i64 (C : Int)) (.slice (some ⟨g9, 0, none⟩) N c9))
  have Hp12 := Lib.hid (blk3g Hp11.out (show pp ≠ zt by have := HZt.out; have := HZp.out; omega) (.int .i64 (R : Int)) (.int .i64 (C : Int)) (.slice (some ⟨g9, 0, none⟩) N c9))
  have Ht12 := Lib.hid (Ht11.out.store3v (.int .i64 (R : Int)) (.int .i64 (C : Int)) (.slice (some ⟨g9, 0, none⟩) N c9))
  have Hr12 := Lib.hid (blk3g Hr11.out (show p9 ≠ zt by have := HZt.out; have := HZp.out; omega) (.int .i64 (R : Int)) (.int .i64 (C : Int)) (.slice (some ⟨g9, 0, none⟩) N c9))
  have Hu12 := Lib.hid (own3g Hu11.out (own_ne Hu11.out Ht11.out (by decide)) (.int .i64 (R : Int)) (.int .i64 (C : Int)) (.slice (some ⟨g9, 0, none⟩) N c9))
  have Hv12 := Lib.hid (own3g Hv11.out (own_ne Hv11.out Ht11.out (by decide)) (.int .i64 (R : Int)) (.int .i64 (C : Int)) (.slice (some ⟨g9, 0, none⟩) N c9))
  have Hy12 := Lib.hid (own3g Hy11.out (own_ne Hy11.out Ht11.out (by decide)) (.int .i64 (R : Int)) (.int .i64 (C : Int)) (.slice (some ⟨g9, 0, none⟩) N c9))
  have HB12 := Lib.hid (below3g HB11.out (show w.heap.size ≤ zt by have := HZt.out; omega) (.int .i64 (R : Int)) (.int .i64 (C : Int)) (.slice (some ⟨g9, 0, none⟩) N c9))
  clear Hm11 Hx11 Hn11 Hp11 Ht11 Hr11 Hu11 Hv11 Hy11 HB11
  clear m0 m1 m2 m3 m4 x0 x1 x2 x3 x4 n0 n1 n2 n3 n4 p0 p1 p2 p3 p4 t0 t1 t2 r0 r1 r2
  clear f0 f1 f2
  generalize (((wg.setCell ⟨zt, 0, none⟩ (.int .i64 (R : Int))).setCell ⟨zt, 1, none⟩ (.int .i64 (C : Int))).setCell ⟨zt, 2, none⟩ (.slice (some ⟨g9, 0, none⟩) N c9)) = wh at *
  clear Hr12
  obtain ⟨m0, m1, m2, m3, m4⟩ := cells5 Hm12.out
  obtain ⟨x0, x1, x2, x3, x4⟩ := cells5 Hx12.out
  obtain ⟨n0, n1, n2, n3, n4⟩ := cells5 Hn12.out
  obtain ⟨p0, p1, p2, p3, p4⟩ := cells5 Hp12.out
  obtain ⟨t0, t1, t2⟩ := cells3v Ht12.out
  go_wp2_with fail
  refine (HMs.out _).mono ?_
  rintro e wj ⟨rfl, hb⟩
  have Hm13 := Lib.hid (Hm12.out.nxt hb)
  have Hx13 := Lib.hid (Hx12.out.nxt hb)
  have Hn13 := Lib.hid (Hn12.out.nxt hb)
  have Hp13 := Lib.hid (Hp12.out.nxt hb)
  have Ht13 := Lib.hid (Ht12.out.nxt hb)
  have Hu13 := Lib.hid (Hu12.out.nxt hb)
  have Hv13 := Lib.hid (Hv12.out.nxt hb)
  have Hy13 := Lib.hid (Hy12.out.nxt hb)
  have HB13 := Lib.hid (below_nx HB12.out hb)
  clear hb
  clear m0 m1 m2 m3 m4 x0 x1 x2 x3 x4 n0 n1 n2 n3 n4 p0 p1 p2 p3 p4 t0 t1 t2
  obtain ⟨m0, m1, m2, m3, m4⟩ := cells5 Hm13.out
  obtain ⟨x0, x1, x2, x3, x4⟩ := cells5 Hx13.out
  obtain ⟨n0, n1, n2, n3, n4⟩ := cells5 Hn13.out
  obtain ⟨p0, p1, p2, p3, p4⟩ := cells5 Hp13.out
  obtain ⟨t0, t1, t2⟩ := cells3v Ht13.out
  clear Hm12 Hx12 Hn12 Hp12 Ht12 Hu12 Hv12 Hy12 HB12
  go_wp2_with fail
  refine (HMx.out _).mono ?_
  rintro e wl ⟨rfl, hb⟩
  have Hm14 := Lib.hid (Hm13.out.nxt hb)
  have Hx14 := Lib.hid (Hx13.out.nxt hb)
  have Hn14 := Lib.hid (Hn13.out.nxt hb)
  have Hp14 := Lib.hid (Hp13.out.nxt hb)
  have Ht14 := Lib.hid (Ht13.out.nxt hb)
  have Hu14 := Lib.hid (Hu13.out.nxt hb)
  have Hv14 := Lib.hid (Hv13.out.nxt hb)
  have Hy14 := Lib.hid (Hy13.out.nxt hb)
  have HB14 := Lib.hid (below_nx HB13.out hb)
  clear hb
  clear m0 m1 m2 m3 m4 x0 x1 x2 x3 x4 n0 n1 n2 n3 n4 p0 p1 p2 p3 p4 t0 t1 t2
  obtain ⟨m0, m1, m2, m3, m4⟩ := cells5 Hm14.out
  obtain ⟨x0, x1, x2, x3, x4⟩ := cells5 Hx14.out
  obtain ⟨n0, n1, n2, n3, n4⟩ := cells5 Hn14.out
  obtain ⟨p0, p1, p2, p3, p4⟩ := cells5 Hp14.out
  obtain ⟨t0, t1, t2⟩ := cells3v Ht14.out
  clear Hm13 Hx13 Hn13 Hp13 Ht13 Hu13 Hv13 Hy13 HB13
  go_wp2_with fail
  refine (HSx.out _).mono ?_
  rintro e wl2 ⟨rfl, hw6⟩
  subst hw6
  go_wp2_with fail
  refine wp_region_invG [145, 146, 147, 148, 149, 150, 151, 152, 153, 154, 155, 156, 157, 158, 159, 160, 161, 162, 163, 10] (fun d s W => (d 0 = true → s 145 = .pointer (some ⟨pp, 0, none⟩)) ∧ (d 1 = true → s 146 = .slice (some ⟨gn, 0, none⟩) nm cn) ∧ (d 2 = true → s 147 = .agg #[.slice Am nm cm, .int .i64 (o2 : Int), .int .i64 (R : Int), .int .i64 (C : Int), .int .i64 (L2 : Int)]) ∧ (d 3 = true → s 148 = .agg #[.int .i64 (R : Int), .int .i64 (C : Int), .slice (some ⟨g9, 0, none⟩) N c9]) ∧ (d 4 = true → SlG W (s 149) (TsIm R C N F lm o2 L2) nm) ∧ (d 5 = true → s 150 = .bool true) ∧ (d 6 = true → s 151 = .bool true) ∧ (d 7 = true → s 152 = .bool true) ∧ (d 8 = true → s 153 = .bool true) ∧ (d 9 = true → s 154 = undef) ∧ (d 10 = true → s 155 = undef) ∧ (d 11 = true → s 156 = undef) ∧ (d 12 = true → s 157 = undef) ∧ (d 13 = true → s 158 = undef) ∧ (d 14 = true → s 159 = .bool true) ∧ (d 15 = true → s 160 = .bool true) ∧ (d 16 = true → s 161 = .bool true) ∧ (d 17 = true → s 162 = .bool true) ∧ (d 18 = true → s 163 = .bool true) ∧ (d 19 = true → s 10 = .bool true) ∧ Below wl.heap.size wl W)
    rfl (by kernel_rfl) ?_ ?_ ?_
  · exact ⟨by simp, by simp, by simp, by simp, by simp, by simp, by simp, by simp, by simp, by simp, by simp, by simp, by simp, by simp, by simp, by simp, by simp, by simp, by simp, by simp, (Below.refl _ _).drew⟩
  · refine ⟨?_, ?_, ?_, ?_, ?_, ?_, ?_, ?_, ?_, ?_, ?_, ?_, ?_, ?_, ?_, ?_, ?_, ?_, ?_, ?_, trivial⟩
    all_goals
      intro d s W hJ hfr hd hdep
      simp only [List.mem_cons, forall_eq_or_imp, List.not_mem_nil, false_implies, implies_true, and_true, Region.binds] at hdep
      have f4 := hfr 4 (by decide)
      have f7 := hfr 7 (by decide)
      have f8 := hfr 8 (by decide)
      have f11 := hfr 11 (by decide)
      have f12 := hfr 12 (by decide)
      have f15 := hfr 15 (by decide)
      simp at f4 f7 f8 f11 f12 f15 hdep
      obtain ⟨h0, h1, h2, h3, h4, h5, h6, h7, h8, h9, h10, h11, h12, h13, h14, h15, h16, h17, h18, h19, hT⟩ := hJ
    · as_aux_lemma =>
        refine stepG_plain rfl ?_
        unfold OpSteps
        simp [go_sem, evS, f12]
        exact ⟨fun _ => by simp [sput], kpw h1, kpw h2, kpw h3, fun h => by simpa [sput] using h4 (by simpa [did] using h), kpw h5, kpw h6, kpw h7, kpw h8, kpw h9, kpw h10, kpw h11, kpw h12, kpw h13, kpw h14, kpw h15, kpw h16, kpw h17, kpw h18, kpw h19, hT⟩
    · as_aux_lemma =>
        have g0 := h0 (by simp [hdep])
        refine stepG_plain rfl ?_
        unfold OpSteps
        obtain ⟨p0, p1, p2, p3, p4⟩ := cells5 (Hp14.out.below hT Hp14.out.lt)
        simp [go_sem, evS, g0, p0, p1, p2, p3, p4]
        exact ⟨kpw h0, fun _ => by simp [sput], kpw h2, kpw h3, fun h => by simpa [sput] using h4 (by simpa [did] using h), kpw h5, kpw h6, kpw h7, kpw h8, kpw h9, kpw h10, kpw h11, kpw h12, kpw h13, kpw h14, kpw h15, kpw h16, kpw h17, kpw h18, kpw h19, hT⟩
    · as_aux_lemma =>
        refine stepG_plain rfl ?_
        unfold OpSteps
        obtain ⟨p0, p1, p2, p3, p4⟩ := cells5 (Hx14.out.below hT Hx14.out.lt)
        simp [go_sem, evS, f8, p0, p1, p2, p3, p4]
        exact ⟨kpw h0, kpw h1, fun _ => by simp [sput], kpw h3, fun h => by simpa [sput] using h4 (by simpa [did] using h), kpw h5, kpw h6, kpw h7, kpw h8, kpw h9, kpw h10, kpw h11, kpw h12, kpw h13, kpw h14, kpw h15, kpw h16, kpw h17, kpw h18, kpw h19, hT⟩
    · as_aux_lemma =>
        refine stepG_plain rfl ?_
        unfold OpSteps
        obtain ⟨p0, p1, p2⟩ := cells3v (Ht14.out.below hT Ht14.out.lt)
        simp [go_sem, evS, f15, p0, p1, p2]
        exact ⟨kpw h0, kpw h1, kpw h2, fun _ => by simp [sput], fun h => by simpa [sput] using h4 (by simpa [did] using h), kpw h5, kpw h6, kpw h7, kpw h8, kpw h9, kpw h10, kpw h11, kpw h12, kpw h13, kpw h14, kpw h15, kpw h16, kpw h17, kpw h18, kpw h19, hT⟩
    · as_aux_lemma =>
        have g2 := h2 (by simp [hdep])
        have g3 := h3 (by simp [hdep])
        refine stepG_plain rfl ?_
        unfold OpSteps
        simp [go_sem, evS, g2, g3]
        refine (HIn.out g9 c9 T9 W (below_nx HB14.out hT) HS9.out (Hy14.out.row.below hT)).mono ?_
        rintro e W' ⟨B8, d8, z8, rfl, hz8, hr8, hb⟩
        refine ⟨_, rfl, ?_⟩
        exact ⟨kpw h0, kpw h1, kpw h2, kpw h3, fun _ => ⟨B8, d8, z8, by simp [sput], hz8, hr8⟩, kpw h5, kpw h6, kpw h7, kpw h8, kpw h9, kpw h10, kpw h11, kpw h12, kpw h13, kpw h14, kpw h15, kpw h16, kpw h17, kpw h18, kpw h19, below_nx hT hb⟩
    · as_aux_lemma =>
        have g1 := h1 (by simp [hdep])
        have g4 := h4 (by simp [hdep])
        refine stepG_plain rfl ?_
        unfold OpSteps
        obtain ⟨B8, d8, z8, gv4, gS4, gR4⟩ := g4
        simp [go_sem, evS, g1, gv4]
        refine (HFin.out W _ _ _ _ _ _ HI.out gS4 (Hu14.out.row.below hT) gR4).mono ?_
        rintro e W' ⟨rfl, hb⟩
        refine ⟨_, rfl, ?_⟩
        exact ⟨kpw h0, kpw h1, kpw h2, kpw h3, fun h => by simpa [sput] using (h4 (by simpa [did] using h)).below hb, fun _ => by simp [sput], kpw h6, kpw h7, kpw h8, kpw h9, kpw h10, kpw h11, kpw h12, kpw h13, kpw h14, kpw h15, kpw h16, kpw h17, kpw h18, kpw h19, below_nx hT hb⟩
    · as_aux_lemma =>
        have g5 := h5 (by simp [hdep])
        refine stepG_plain rfl ?_
        unfold OpSteps
        simp [go_sem, evS, g5]
        exact ⟨kpw h0, kpw h1, kpw h2, kpw h3, fun h => by simpa [sput] using h4 (by simpa [did] using h), kpw h5, fun _ => by simp [sput], kpw h7, kpw h8, kpw h9, kpw h10, kpw h11, kpw h12, kpw h13, kpw h14, kpw h15, kpw h16, kpw h17, kpw h18, kpw h19, hT⟩
    · as_aux_lemma =>
        have g6 := h6 (by simp [hdep])
        refine stepG_on 6 151 true rfl rfl g6 ?_
        unfold OpSteps
        simp [go_sem, evS, f4, g6]
        exact ⟨kpw h0, kpw h1, kpw h2, kpw h3, fun h => by simpa [sput] using h4 (by simpa [did] using h), kpw h5, kpw h6, fun _ => by simp [sput], kpw h8, kpw h9, kpw h10, kpw h11, kpw h12, kpw h13, kpw h14, kpw h15, kpw h16, kpw h17, kpw h18, kpw h19, hT⟩
    · as_aux_lemma =>
        have g7 := h7 (by simp [hdep])
        have g6 := h6 (by simp [hdep])
        refine stepG_on 6 151 true rfl rfl g6 ?_
        unfold OpSteps
        simp [go_sem, evS, g7, g6]
        exact ⟨kpw h0, kpw h1, kpw h2, kpw h3, fun h => by simpa [sput] using h4 (by simpa [did] using h), kpw h5, kpw h6, kpw h7, fun _ => by simp [sput], kpw h9, kpw h10, kpw h11, kpw h12, kpw h13, kpw h14, kpw h15, kpw h16, kpw h17, kpw h18, kpw h19, hT⟩
    · as_aux_lemma =>
        have g8 := h8 (by simp [hdep])
        refine stepG_off 8 153 false rfl rfl (by rw [g8]; rfl) ?_
        exact ⟨kpw h0, kpw h1, kpw h2, kpw h3, fun h => by simpa [sput] using h4 (by simpa [did] using h), kpw h5, kpw h6, kpw h7, kpw h8, fun _ => by simp [sput], kpw h10, kpw h11, kpw h12, kpw h13, kpw h14, kpw h15, kpw h16, kpw h17, kpw h18, kpw h19, hT⟩
    · as_aux_lemma =>
        have g8 := h8 (by simp [hdep])
        refine stepG_off 8 153 false rfl rfl (by rw [g8]; rfl) ?_
        exact ⟨kpw h0, kpw h1, kpw h2, kpw h3, fun h => by simpa [sput] using h4 (by simpa [did] using h), kpw h5, kpw h6, kpw h7, kpw h8, kpw h9, fun _ => by simp [sput], kpw h11, kpw h12, kpw h13, kpw h14, kpw h15, kpw h16, kpw h17, kpw h18, kpw h19, hT⟩
    · as_aux_lemma =>
        have g8 := h8 (by simp [hdep])
        refine stepG_off 8 153 false rfl rfl (by rw [g8]; rfl) ?_
        exact ⟨kpw h0, kpw h1, kpw h2, kpw h3, fun h => by simpa [sput] using h4 (by simpa [did] using h), kpw h5, kpw h6, kpw h7, kpw h8, kpw h9, kpw h10, fun _ => by simp [sput], kpw h12, kpw h13, kpw h14, kpw h15, kpw h16, kpw h17, kpw h18, kpw h19, hT⟩
    · as_aux_lemma =>
        have g8 := h8 (by simp [hdep])
        refine stepG_off 8 153 false rfl rfl (by rw [g8]; rfl) ?_
        exact ⟨kpw h0, kpw h1, kpw h2, kpw h3, fun h => by simpa [sput] using h4 (by simpa [did] using h), kpw h5, kpw h6, kpw h7, kpw h8, kpw h9, kpw h10, kpw h11, fun _ => by simp [sput], kpw h13, kpw h14, kpw h15, kpw h16, kpw h17, kpw h18, kpw h19, hT⟩
    · as_aux_lemma =>
        have g8 := h8 (by simp [hdep])
        refine stepG_off 8 153 false rfl rfl (by rw [g8]; rfl) ?_
        exact ⟨kpw h0, kpw h1, kpw h2, kpw h3, fun h => by simpa [sput] using h4 (by simpa [did] using h), kpw h5, kpw h6, kpw h7, kpw h8, kpw h9, kpw h10, kpw h11, kpw h12, fun _ => by simp [sput], kpw h14, kpw h15, kpw h16, kpw h17, kpw h18, kpw h19, hT⟩
    · as_aux_lemma =>
        have g8 := h8 (by simp [hdep])
        have g13 := h13 (by simp [hdep])
        have g6 := h6 (by simp [hdep])
        refine stepG_on 6 151 true rfl rfl g6 ?_
        unfold OpSteps
        simp [go_sem, evS, g8, g13, g6]
        exact ⟨kpw h0, kpw h1, kpw h2, kpw h3, fun h => by simpa [sput] using h4 (by simpa [did] using h), kpw h5, kpw h6, kpw h7, kpw h8, kpw h9, kpw h10, kpw h11, kpw h12, kpw h13, fun _ => by simp [sput], kpw h15, kpw h16, kpw h17, kpw h18, kpw h19, hT⟩
    · as_aux_lemma =>
        have g6 := h6 (by simp [hdep])
        have g14 := h14 (by simp [hdep])
        refine stepG_plain rfl ?_
        unfold OpSteps
        simp [go_sem, evS, g6, g14]
        exact ⟨kpw h0, kpw h1, kpw h2, kpw h3, fun h => by simpa [sput] using h4 (by simpa [did] using h), kpw h5, kpw h6, kpw h7, kpw h8, kpw h9, kpw h10, kpw h11, kpw h12, kpw h13, kpw h14, fun _ => by simp [sput], kpw h16, kpw h17, kpw h18, kpw h19, hT⟩
    · as_aux_lemma =>
        have g15 := h15 (by simp [hdep])
        refine stepG_plain rfl ?_
        unfold OpSteps
        simp [go_sem, evS, g15]
        exact ⟨kpw h0, kpw h1, kpw h2, kpw h3, fun h => by simpa [sput] using h4 (by simpa [did] using h), kpw h5, kpw h6, kpw h7, kpw h8, kpw h9, kpw h10, kpw h11, kpw h12, kpw h13, kpw h14, kpw h15, fun _ => by simp [sput], kpw h17, kpw h18, kpw h19, hT⟩
    · as_aux_lemma =>
        have g16 := h16 (by simp [hdep])
        refine stepG_on 16 161 true rfl rfl g16 ?_
        unfold OpSteps
        simp [go_sem, evS, g16]
        refine (HAw.out W).mono ?_
        rintro e W' ⟨rfl, hb⟩
        refine ⟨_, rfl, ?_⟩
        exact ⟨kpw h0, kpw h1, kpw h2, kpw h3, fun h => by simpa [sput] using (h4 (by simpa [did] using h)).below hb, kpw h5, kpw h6, kpw h7, kpw h8, kpw h9, kpw h10, kpw h11, kpw h12, kpw h13, kpw h14, kpw h15, kpw h16, fun _ => by simp [sput], kpw h18, kpw h19, below_nx hT hb⟩
    · as_aux_lemma =>
        have g16 := h16 (by simp [hdep])
        have g17 := h17 (by simp [hdep])
        refine stepG_plain rfl ?_
        unfold OpSteps
        simp [go_sem, evS, g16, g17]
        exact ⟨kpw h0, kpw h1, kpw h2, kpw h3, fun h => by simpa [sput] using h4 (by simpa [did] using h), kpw h5, kpw h6, kpw h7, kpw h8, kpw h9, kpw h10, kpw h11, kpw h12, kpw h13, kpw h14, kpw h15, kpw h16, kpw h17, fun _ => by simp [sput], kpw h19, hT⟩
    · as_aux_lemma =>
        have g18 := h18 (by simp [hdep])
        refine stepG_plain rfl ?_
        unfold OpSteps
        simp [go_sem, evS, g18]
        exact ⟨kpw h0, kpw h1, kpw h2, kpw h3, fun h => by simpa [sput] using h4 (by simpa [did] using h), kpw h5, kpw h6, kpw h7, kpw h8, kpw h9, kpw h10, kpw h11, kpw h12, kpw h13, kpw h14, kpw h15, kpw h16, kpw h17, kpw h18, fun _ => by simp [sput], hT⟩
  intro d s W hJ hd
  obtain ⟨h0, h1, h2, h3, h4, h5, h6, h7, h8, h9, h10, h11, h12, h13, h14, h15, h16, h17, h18, h19, hT⟩ := hJ
  have hs8 := h19 (hd 19 (by decide))
  have HBe := Lib.hid (below_nx HB14.out hT)
  clear h0 h1 h2 h3 h4 h5 h6 h7 h8 h9 h10 h11 h12 h13 h14 h15 h16 h17 h18 h19 hT hd
  simp [setAll, hs8]
  clear hs8
  go_wp2_with fail
  go_ret
  exact ⟨rfl, HBe.out⟩

end Go.Proofs.Ytcdhpoikppfjkaa
