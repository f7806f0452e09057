/-
GerTells, no error. Conditions: as each says.
-/
import Derived.Test.YtmjaakngiilmdaaZGrM
set_option linter.unusedVariables false
set_option linter.unusedSimpArgs false
set_option linter.unnecessarySimpa false
namespace Go.Proofs.Ytmjaakngiilmdaa
open Go.RowKit
attribute [local go_sem ↓] Go.wp_at_zero Go.wp_at_succ

set_option maxRecDepth 100000 in
set_option maxHeartbeats 4000000 in
theorem gerTells_ok0 (a : Nat) (Ax : Option Addr) (nx cx : Nat) (lx : List Nat) (Ay : Option Addr) (ny cy : Nat) (ly : List Nat) (Am : Option Addr) (nm cm : Nat) (lm : List Nat) (ox ix oy iy o R C L : Nat) (one : Int) (w : World) (hAx : Row w Ax (f64s lx)) (hAy : Row w Ay (f64s ly)) (hAm : Row w Am (f64s lm)) (hWx : Wds lx) (hWy : Wds ly) (hWm : Wds lm) (hlx : lx.length = nx) (hly : ly.length = ny) (hlm : lm.length = nm) (hnx : nx ≤ 1000) (hny : ny ≤ 1000) (hnm : nm ≤ 1000) (hG : greatB nm (R : Int) (C : Int) = false) (hLx : longB nx (R : Int) = false) (hLy : longB ny (C : Int) = false) (f1 : (one == 1) = false) (f2 : (one == 2) = false) (ha : a < 18446744073709551616) (hRb : R ≤ 20) (hCb : C ≤ 20) (hox : I64 ox) (hix : I64 ix) (hoy : I64 oy) (hiy : I64 iy) (ho : I64 o) (hLI : I64 L) (hix1 : 1 ≤ ix) (hxr : R = 0 ∨ ox + (R - 1) * ix < nx) (hiy1 : 1 ≤ iy) (hyr : C = 0 ∨ oy + (C - 1) * iy < ny) (hL1 : 1 ≤ L) (hRL : R ≤ L) (hmr : R = 0 ∨ C = 0 ∨ o + (C - 1) * L + (R - 1) < nm) :
    Calls Try.prog 4 #[.float .f64 a, vec Ax nx cx ox R ix, vec Ay ny cy oy C iy, mat Am nm cm o R C L, .int .i64 one] w fun e w' => e = .returned (.bool true) ∧ Below w.heap.size w w' := by
  have hRI : I64 (R : Int) := by unfold I64; omega
  have hCI : I64 (C : Int) := by unfold I64; omega
  have HGr := Lib.hid (fun W => great_any Am nm cm o R C L W)
  have HLx := Lib.hid (fun W => long_any Ax nx cx ox R ix W)
  have HLy := Lib.hid (fun W => long_any Ay ny cy oy C iy W)
  rw [hG] at HGr
  rw [hLx] at HLx
  rw [hLy] at HLy
  have HAp := Lib.hid (apart_c Am nm cm lm o R C L w hAm hlm (by omega))
  have HAlx := Lib.hid (alone_c Ax nx cx lx ox R ix w hAx hlx (by omega))
  have HAly := Lib.hid (alone_c Ay ny cy ly oy C iy w hAy hly (by omega))
  have HRx := Lib.hid (fun W => rright_any Ax nx cx ox R ix W (by omega) hox hRI hix)
  have HRy := Lib.hid (fun W => rright_any Ay ny cy oy C iy W (by omega) hoy hCI hiy)
  have HGm := Lib.hid (fun W => rgood_any Am nm cm o R C L W (by omega) ho hRI hCI hLI)
  have HAllm := Lib.hid (all_c lm nm hWm hlm (by omega))
  have HAllx := Lib.hid (all_c lx nx hWx hlx (by omega))
  have HAlly := Lib.hid (all_c ly ny hWy hly (by omega))
  rw [vec_right hix1 hxr] at HRx
  rw [vec_right hiy1 hyr] at HRy
  rw [mat_right hL1 hRL hmr] at HGm
  have HPr := Lib.hid (fun W (g cg gx cx9 gy cy9 : Nat) (h1 : gx ≠ g) (h2 : gy ≠ g) (hO : Own W g lm) (hX : Own W gx lx) (hY : Own W gy ly) => show Calls Try.prog 17 #[.float .f64 a, vec (some ⟨gx, 0, none⟩) nx cx9 ox R ix, vec (some ⟨gy, 0, none⟩) ny cy9 oy C iy, mat (some ⟨g, 0, none⟩) nm cg o R C L] W fun e w' => e = .returned (.int .i64 0) ∧ ∃ l', Own w' g l' ∧ Imr lm o R C L (GerR a lx ox ix ly oy iy lm o L) l' ∧ Chg [g] W w' from
    grger_ok a gx cx9 nx lx ox ix gy cy9 ny ly oy iy g cg nm lm o R C L W hX hY hO hlx hly hlm (by omega) (by omega) (by omega) (by omega) (by omega) hox hix hoy hiy ho hLI hix1 hxr hiy1 hyr hL1 hRL hmr (fun e => (h1 e.symm).elim) (fun e => (h2 e.symm).elim) (fun W' hb => grmeets_far gx cx9 nx lx ox R ix g cg nm lm o R C L W' (hX.nxt hb) (hO.nxt hb) h1 hlx hlm (by omega) (by omega) hox hRI hix ho hRI hCI hLI) (fun W' hb => grmeets_far gy cy9 ny ly oy C iy g cg nm lm o R C L W' (hY.nxt hb) (hO.nxt hb) h2 hly hlm (by omega) (by omega) hoy hCI hiy ho hRI hCI hLI))
  have HMs := Lib.hid (fun W => mspan_any Am nm cm o R C L W (by omega) (by omega) (by omega) hmr)
  have HVx := Lib.hid (fun W => vspan_any Ax nx cx ox R ix W (by omega) (by omega) hxr)
  have HVy := Lib.hid (fun W => vspan_any Ay ny cy oy C iy W (by omega) (by omega) hyr)
  have HSx := Lib.hid (fun W => spans_any (vsA ox R) (vsB ox R ix) (msA o R C) (msB o R C L) W)
  have HSy := Lib.hid (fun W => spans_any (vsA oy C) (vsB oy C iy) (msA o R C) (msB o R C L) W)
  have hE0 : nm = 0 → ∀ p q, spB p q (msA o R C) (msB o R C L) = false := fun h0 p q => by
    have hq : R = 0 ∨ C = 0 := by omega
    unfold msA msB spB
    rw [if_pos hq, if_pos hq]
    have : decide ((0 : Int) ≤ -1) = false := by decide
    rw [this, Bool.and_false, Bool.false_and, Bool.false_and]
  have HSx0 := Lib.hid (fun (h0 : nm = 0) W => show Calls Try.prog 22 #[.int .i64 (vsA ox R), .int .i64 (vsB ox R ix), .int .i64 (msA o R C), .int .i64 (msB o R C L)] W fun e w' => e = .returned (.bool false) ∧ W = w' from by
    have := HSx.out W
    rw [hE0 h0] at this
    exact this)
  have HSy0 := Lib.hid (fun (h0 : nm = 0) W => show Calls Try.prog 22 #[.int .i64 (vsA oy C), .int .i64 (vsB oy C iy), .int .i64 (msA o R C), .int .i64 (msB o R C L)] W fun e w' => e = .returned (.bool false) ∧ W = w' from by
    have := HSy.out W
    rw [hE0 h0] at this
    exact this)
  clear hE0
  obtain ⟨x1, hx1⟩ : ∃ z, vsA ox R = z := ⟨_, rfl⟩
  obtain ⟨x2, hx2⟩ : ∃ z, vsB ox R ix = z := ⟨_, rfl⟩
  obtain ⟨y1, hy1⟩ : ∃ z, vsA oy C = z := ⟨_, rfl⟩
  obtain ⟨y2, hy2⟩ : ∃ z, vsB oy C iy = z := ⟨_, rfl⟩
  obtain ⟨m1, hm1⟩ : ∃ z, msA o R C = z := ⟨_, rfl⟩
  obtain ⟨m2, hm2⟩ : ∃ z, msB o R C L = z := ⟨_, rfl⟩
  rw [hx1, hx2] at HVx
  rw [hy1, hy2] at HVy
  rw [hm1, hm2] at HMs
  rw [hx1, hx2, hm1, hm2] at HSx
  rw [hy1, hy2, hm1, hm2] at HSy
  rw [hx1, hx2, hm1, hm2] at HSx0
  rw [hy1, hy2, hm1, hm2] at HSy0
  clear hx1 hx2 hy1 hy2 hm1 hm2
  have tR : ((R : Int) == (R : Int)) = true := by simp
  have tR' : ((R : Int) != (R : Int)) = false := by simp
  have tC : ((C : Int) == (C : Int)) = true := by simp
  have tC' : ((C : Int) != (C : Int)) = false := by simp
  obtain ⟨N, hN⟩ : ∃ N, R * C = N := ⟨_, rfl⟩
  have hN20 : N < 1048576 := by
    have h1 : R * C ≤ 20 * 20 := Nat.mul_le_mul hRb hCb
    omega
  have HOf := Lib.hid (fun W (hb : Below w.heap.size w W) => show Calls Try.prog 27 #[mat Am nm cm o R C L] W fun e w' => ∃ g T, e = .returned (tbl R C g N N) ∧ Tab lm o R C L N T ∧ Row w' (some ⟨g, 0, none⟩) (f64s T) ∧ Below W.heap.size W w' from by
    refine (rof_any Am nm cm lm o R C L N W (hAm.below hb) hlm (by omega) hN (by omega) (by omega) (by omega) hmr).mono ?_
    rintro e w' ⟨g', T, e1, e2, e3, _, e4⟩
    exact ⟨g', T, e1, e2, e3, e4⟩)
  have HLsx := Lib.hid (fun W (hb : Below w.heap.size w W) => show Calls Try.prog 26 #[vec Ax nx cx ox R ix] W fun e w' => ∃ B d, e = .returned (.slice B R d) ∧ Row w' B (f64s (lst lx ox ix R)) ∧ Below W.heap.size W w' from
    rlist_any Ax nx cx lx ox R ix W (hAx.below hb) hlx (by omega) hxr (by omega))
  have HLsy := Lib.hid (fun W (hb : Below w.heap.size w W) => show Calls Try.prog 26 #[vec Ay ny cy oy C iy] W fun e w' => ∃ B d, e = .returned (.slice B C d) ∧ Row w' B (f64s (lst ly oy iy C)) ∧ Below W.heap.size W w' from
    rlist_any Ay ny cy ly oy C iy W (hAy.below hb) hly (by omega) hyr (by omega))
  have HRg := Lib.hid (fun (A B : Option Addr) (d1 d2 g c : Nat) (T : List Nat) W (hA1 : Row W A (f64s (lst lx ox ix R))) (hB1 : Row W B (f64s (lst ly oy iy C))) (hT : Tab lm o R C L N T) (h : Row W (some ⟨g, 0, none⟩) (f64s T)) => show Calls Try.prog 25 #[.float .f64 a, .slice A R d1, .slice B C d2, tbl R C g N c] W fun e w' => ∃ g c T', e = .returned (tbl R C g N c) ∧ (GerS a lx ox ix ly oy iy lm o R C L N) T' ∧ Row w' (some ⟨g, 0, none⟩) (f64s T') ∧ Below W.heap.size W w' from by
    refine (rger_any a A R d1 _ B C d2 _ R C g N c T W hA1 (lst_length _ _ _ _) hB1 (lst_length _ _ _ _) (Nat.le_refl _) (Nat.le_refl _) (by omega) (by omega) h (by rw [hT.1, hN]) hN hN20 (by omega) (by omega)).mono ?_
    rintro e w' ⟨g', c', T', e1, e2, e3, e4, _, e5⟩
    exact ⟨g', c', T', e1, GerS.of_ref ha hWx hWy hWm hN hT e3 e4, e2.row, e5⟩)
  have HIn := Lib.hid (fun (g c : Nat) (T : List Nat) W (hb : Below w.heap.size w W) (hT : (GerS a lx ox ix ly oy iy lm o R C L N) T) (h : Row W (some ⟨g, 0, none⟩) (f64s T)) => show Calls Try.prog 24 #[mat Am nm cm o R C L, tbl R C g N c] W fun e w' => ∃ B d X, e = .returned (.slice B nm d) ∧ (fun l2 => ∃ T, GerS a lx ox ix ly oy iy lm o R C L N T ∧ Img lm o R C L (fun i j => T.getD (i * C + j) 0) l2) X ∧ Row w' B (f64s X) ∧ Below W.heap.size W w' from by
    refine (rinto_any Am nm cm lm o R C L g N c T W (hAm.below hb) h hlm (by omega) hT.1 hN (by omega) (by omega) (by omega) (fun h0 => row_ltg h hT.1 h0) hL1 hRL hmr).mono ?_
    rintro e w' ⟨g', c', l', e1, e2, e3, _, e4⟩
    exact ⟨_, c', l', e1, ⟨T, hT, e3⟩, e2.row, e4⟩)
  have HFin := Lib.hid (fun W (A B : Option Addr) (c d : Nat) (X Y : List Nat) (hX : Imr lm o R C L (GerR a lx ox ix ly oy iy lm o L) X) (hY : (fun l2 => ∃ T, GerS a lx ox ix ly oy iy lm o R C L N T ∧ Img lm o R C L (fun i j => T.getD (i * C + j) 0) l2) Y) (h1 : Row W A (f64s X)) (h2 : Row W B (f64s Y)) => show Calls Try.prog 23 #[.slice A nm c, .slice B nm d] W fun e w' => e = .returned (.bool true) ∧ Below W.heap.size W w' from by
    obtain ⟨T, hT, hY⟩ := hY
    have hal : Alike X Y := alike_img hX hY (fun i hi j hj r h => (h.is_ ha hWx hWy hWm).same (hT.2 i hi j hj))
    have hw1 : Wds X := wds_imr hWm hX (fun i _ j _ r h => (h.is_ ha hWx hWy hWm).lt)
    have hw2 : Wds Y := wds_img2 hWm hY (fun i hi j hj => (hT.2 i hi j hj).lt)
    have := rall_any A B c d X Y W hw1 hw2 h1 h2 (by rw [hX.1]; omega) hal
    rw [hX.1, hY.1, hlm] at this; exact this)
  obtain ⟨X1, hX1⟩ : ∃ z, lst lx ox ix R = z := ⟨_, rfl⟩
  obtain ⟨Y1, hY1⟩ : ∃ z, lst ly oy iy C = z := ⟨_, rfl⟩
  rw [hX1] at HLsx HRg
  rw [hY1] at HLsy HRg
  clear hX1 hY1 hN hN20
  have HAm := Lib.hid hAm
  have HAx := Lib.hid hAx
  have HAy := Lib.hid hAy
  clear hAx hAy hAm hWx hWy hWm hlx hly hlm hnx hny hnm hG hLx hLy ha hRb hCb hox hix hoy hiy ho hLI hix1 hxr hiy1 hyr hL1 hRL hmr hRI hCI
  unfold mat vec tbl at *
  go_enter Try.func4, Try.ntmps4
  have Hx0 := Lib.hid (((Blk.new w 32 #[.slice Ax nx cx, .int .i64 (ox : Int), .int .i64 (R : Int), .int .i64 (ix : Int)]).alloc (.cells #[.slice Ay ny cy, .int .i64 (oy : Int), .int .i64 (C : Int), .int .i64 (iy : Int)] 32)).alloc (.cells #[.slice Am nm cm, .int .i64 (o : Int), .int .i64 (R : Int), .int .i64 (C : Int), .int .i64 (L : Int)] 26))
  have Hy0 := Lib.hid ((Blk.new_ (w.alloc (.cells #[.slice Ax nx cx, .int .i64 (ox : Int), .int .i64 (R : Int), .int .i64 (ix : Int)] 32)) 32 #[.slice Ay ny cy, .int .i64 (oy : Int), .int .i64 (C : Int), .int .i64 (iy : Int)] (w.heap.size + 1) (by simp)).alloc (.cells #[.slice Am nm cm, .int .i64 (o : Int), .int .i64 (R : Int), .int .i64 (C : Int), .int .i64 (L : Int)] 26))
  have Hm0 := Lib.hid (Blk.new_ ((w.alloc (.cells #[.slice Ax nx cx, .int .i64 (ox : Int), .int .i64 (R : Int), .int .i64 (ix : Int)] 32)).alloc (.cells #[.slice Ay ny cy, .int .i64 (oy : Int), .int .i64 (C : Int), .int .i64 (iy : Int)] 32)) 26 #[.slice Am nm cm, .int .i64 (o : Int), .int .i64 (R : Int), .int .i64 (C : Int), .int .i64 (L : Int)] (w.heap.size + 1 + 1) (by simp))
  have HB0 := Lib.hid ((((Below.refl w.heap.size w).alloc (Nat.le_refl _) (.cells #[.slice Ax nx cx, .int .i64 (ox : Int), .int .i64 (R : Int), .int .i64 (ix : Int)] 32)).alloc (by simp) (.cells #[.slice Ay ny cy, .int .i64 (oy : Int), .int .i64 (C : Int), .int .i64 (iy : Int)] 32)).alloc (by simp; omega) (.cells #[.slice Am nm cm, .int .i64 (o : Int), .int .i64 (R : Int), .int .i64 (C : Int), .int .i64 (L : Int)] 26))
  obtain ⟨x0, x1, x2, x3⟩ := cells4w Hx0.out
  obtain ⟨y0, y1, y2, y3⟩ := cells4w Hy0.out
  obtain ⟨m0, m1, m2, m3, m4⟩ := cells5 Hm0.out
  go_wp2_with fail
  refine (awake8_any _).mono ?_
  rintro e w1 ⟨rfl, hb⟩
  have Hx1 := Lib.hid (Hx0.out.nxt hb)
  have Hy1 := Lib.hid (Hy0.out.nxt hb)
  have Hm1 := Lib.hid (Hm0.out.nxt hb)
  have HB1 := Lib.hid (below_nx HB0.out hb)
  clear hb
  clear x0 x1 x2 x3 y0 y1 y2 y3 m0 m1 m2 m3 m4
  obtain ⟨x0, x1, x2, x3⟩ := cells4w Hx1.out
  obtain ⟨y0, y1, y2, y3⟩ := cells4w Hy1.out
  obtain ⟨m0, m1, m2, m3, m4⟩ := cells5 Hm1.out
  clear Hx0 Hy0 Hm0 HB0
  go_wp2_with fail
  refine (HGr.out _).mono ?_
  rintro e w2 ⟨rfl, hb⟩
  have Hx2 := Lib.hid (Hx1.out.nxt hb)
  have Hy2 := Lib.hid (Hy1.out.nxt hb)
  have Hm2 := Lib.hid (Hm1.out.nxt hb)
  have HB2 := Lib.hid (below_nx HB1.out hb)
  clear hb
  clear x0 x1 x2 x3 y0 y1 y2 y3 m0 m1 m2 m3 m4
  obtain ⟨x0, x1, x2, x3⟩ := cells4w Hx2.out
  obtain ⟨y0, y1, y2, y3⟩ := cells4w Hy2.out
  obtain ⟨m0, m1, m2, m3, m4⟩ := cells5 Hm2.out
  clear Hx1 Hy1 Hm1 HB1
  go_wp2_with fail
  refine (HLx.out _).mono ?_
  rintro e w3 ⟨rfl, hb⟩
  have Hx3 := Lib.hid (Hx2.out.nxt hb)
  have Hy3 := Lib.hid (Hy2.out.nxt hb)
  have Hm3 := Lib.hid (Hm2.out.nxt hb)
  have HB3 := Lib.hid (below_nx HB2.out hb)
  clear hb
  clear x0 x1 x2 x3 y0 y1 y2 y3 m0 m1 m2 m3 m4
  obtain ⟨x0, x1, x2, x3⟩ := cells4w Hx3.out
  obtain ⟨y0, y1, y2, y3⟩ := cells4w Hy3.out
  obtain ⟨m0, m1, m2, m3, m4⟩ := cells5 Hm3.out
  clear Hx2 Hy2 Hm2 HB2
  go_wp2_with fail
  refine (HLy.out _).mono ?_
  rintro e w4 ⟨rfl, hb⟩
  have Hx4 := Lib.hid (Hx3.out.nxt hb)
  have Hy4 := Lib.hid (Hy3.out.nxt hb)
  have Hm4 := Lib.hid (Hm3.out.nxt hb)
  have HB4 := Lib.hid (below_nx HB3.out hb)
  clear hb
  clear x0 x1 x2 x3 y0 y1 y2 y3 m0 m1 m2 m3 m4
  obtain ⟨x0, x1, x2, x3⟩ := cells4w Hx4.out
  obtain ⟨y0, y1, y2, y3⟩ := cells4w Hy4.out
  obtain ⟨m0, m1, m2, m3, m4⟩ := cells5 Hm4.out
  clear Hx3 Hy3 Hm3 HB3
  go_wp2_with fail
  refine wp_region_inv [58, 59, 60, 61, 62, 63, 11, 12, 13] (fun d s W => (d 0 = true → s 58 = .agg #[.slice Am nm cm, .int .i64 (o : Int), .int .i64 (R : Int), .int .i64 (C : Int), .int .i64 (L : Int)]) ∧ (d 1 = true → OwM W (s 59) w4.heap.size lm nm (o : Int) (R : Int) (C : Int) (L : Int)) ∧ (d 2 = true → s 60 = .agg #[.slice Ax nx cx, .int .i64 (ox : Int), .int .i64 (R : Int), .int .i64 (ix : Int)]) ∧ (d 3 = true → OwV W (s 61) w4.heap.size lx nx (ox : Int) (R : Int) (ix : Int)) ∧ (d 4 = true → s 62 = .agg #[.slice Ay ny cy, .int .i64 (oy : Int), .int .i64 (C : Int), .int .i64 (iy : Int)]) ∧ (d 5 = true → OwV W (s 63) w4.heap.size ly ny (oy : Int) (C : Int) (iy : Int)) ∧ (d 6 = true → NbM W (s 11) w4.heap.size) ∧ (d 7 = true → NbV W (s 12) w4.heap.size) ∧ (d 8 = true → NbV W (s 13) w4.heap.size) ∧ (d 9 = true → PqM W (s 11) (lb (s 59)) w4.heap.size lm nm (o : Int) (R : Int) (C : Int) (L : Int)) ∧ (d 10 = true → PqV W (s 12) (lb (s 61)) w4.heap.size lx nx (ox : Int) (R : Int) (ix : Int)) ∧ (d 11 = true → PqV W (s 13) (lb (s 63)) w4.heap.size ly ny (oy : Int) (C : Int) (iy : Int)) ∧ (d 9 = true → d 6 = true) ∧ (d 10 = true → d 7 = true) ∧ (d 11 = true → d 8 = true) ∧ (d 7 = true → d 8 = true → s 12 ≠ s 13) ∧ (d 1 = true → d 3 = true → lb (s 59) ≠ lb (s 61)) ∧ (d 1 = true → d 5 = true → lb (s 59) ≠ lb (s 63)) ∧ (d 9 = true → d 1 = true) ∧ (d 10 = true → d 3 = true) ∧ (d 11 = true → d 5 = true) ∧ Below w4.heap.size w4 W)
    rfl (by kernel_rfl) ?_ ?_ ?_
  · exact ⟨by simp, by simp, by simp, by simp, by simp, by simp, by simp, by simp, by simp, by simp, by simp, by simp, by simp, by simp, by simp, by simp, by simp, by simp, by simp, by simp, by simp, (Below.refl _ _).drew⟩
  · refine ⟨?_, ?_, ?_, ?_, ?_, ?_, ?_, ?_, ?_, ?_, ?_, ?_, trivial⟩
    all_goals
      intro d s W hJ hfr hd hdep
      simp only [List.mem_cons, forall_eq_or_imp, List.not_mem_nil, false_implies, implies_true, and_true, Region.binds] at hdep
      have f6 := hfr 6 (by decide)
      have f7 := hfr 7 (by decide)
      have f8 := hfr 8 (by decide)
      simp at f6 f7 f8 hdep
      obtain ⟨h0, h1, h2, h3, h4, h5, h6, h7, h8, h9, h10, h11, x0, x1, x2, x3, x4, x5, x6, x7, x8, hT⟩ := hJ
    · as_aux_lemma =>
        unfold OpSteps
        obtain ⟨p0, p1, p2, p3, p4⟩ := cells5 (Hm4.out.below hT Hm4.out.lt)
        simp [go_sem, evS, f8, p0, p1, p2, p3, p4]
        exact ⟨fun _ => by simp [sput], fun h => by simpa [sput] using h1 (by simpa [did] using h), kpw h2, fun h => by simpa [sput] using h3 (by simpa [did] using h), kpw h4, fun h => by simpa [sput] using h5 (by simpa [did] using h), fun h => by simpa [sput] using h6 (by simpa [did] using h), fun h => by simpa [sput] using h7 (by simpa [did] using h), fun h => by simpa [sput] using h8 (by simpa [did] using h), fun h => by simpa [sput] using h9 (by simpa [did] using h), fun h => by simpa [sput] using h10 (by simpa [did] using h), fun h => by simpa [sput] using h11 (by simpa [did] using h), by simpa [sput, did] using x0, by simpa [sput, did] using x1, by simpa [sput, did] using x2, by simpa [sput, did] using x3, by simpa [sput, did] using x4, by simpa [sput, did] using x5, by simpa [sput, did] using x6, by simpa [sput, did] using x7, by simpa [sput, did] using x8, hT⟩
    · as_aux_lemma =>
        have g0 := h0 (by simp [hdep])
        unfold OpSteps
        simp [go_sem, evS, g0]
        refine (HAp.out W (below_nx HB4.out hT)).mono ?_
        rintro e W' ⟨g9, c9, rfl, ho, hg, hb⟩
        refine ⟨_, rfl, ?_⟩
        exact ⟨kpw h0, fun _ => ⟨g9, c9, by simp [sput], ho, Nat.le_trans hT.size hg⟩, kpw h2, fun h => by simpa [sput] using (h3 (by simpa [did] using h)).below hb, kpw h4, fun h => by simpa [sput] using (h5 (by simpa [did] using h)).below hb, fun h => by simpa [sput] using (h6 (by simpa [did] using h)).below hb, fun h => by simpa [sput] using (h7 (by simpa [did] using h)).below hb, fun h => by simpa [sput] using (h8 (by simpa [did] using h)).below hb, fun h => by have := x6 (by simpa [did] using h); simp [hd] at this, fun h => by simpa [sput] using (h10 (by simpa [did] using h)).below hb, fun h => by simpa [sput] using (h11 (by simpa [did] using h)).below hb, by simpa [sput, did] using x0, by simpa [sput, did] using x1, by simpa [sput, did] using x2, by simpa [sput, did] using x3, fun _ e3 => by have hq := (h3 (by simpa [did] using e3)).lb_lt; simp [sput, lb_mat]; omega, fun _ e3 => by have hq := (h5 (by simpa [did] using e3)).lb_lt; simp [sput, lb_mat]; omega, fun _ => by simp [did], by simpa [sput, did] using x7, by simpa [sput, did] using x8, below_nx hT hb⟩
    · as_aux_lemma =>
        unfold OpSteps
        obtain ⟨p0, p1, p2, p3⟩ := cells4w (Hx4.out.below hT Hx4.out.lt)
        simp [go_sem, evS, f6, p0, p1, p2, p3]
        exact ⟨kpw h0, fun h => by simpa [sput] using h1 (by simpa [did] using h), fun _ => by simp [sput], fun h => by simpa [sput] using h3 (by simpa [did] using h), kpw h4, fun h => by simpa [sput] using h5 (by simpa [did] using h), fun h => by simpa [sput] using h6 (by simpa [did] using h), fun h => by simpa [sput] using h7 (by simpa [did] using h), fun h => by simpa [sput] using h8 (by simpa [did] using h), fun h => by simpa [sput] using h9 (by simpa [did] using h), fun h => by simpa [sput] using h10 (by simpa [did] using h), fun h => by simpa [sput] using h11 (by simpa [did] using h), by simpa [sput, did] using x0, by simpa [sput, did] using x1, by simpa [sput, did] using x2, by simpa [sput, did] using x3, by simpa [sput, did] using x4, by simpa [sput, did] using x5, by simpa [sput, did] using x6, by simpa [sput, did] using x7, by simpa [sput, did] using x8, hT⟩
    · as_aux_lemma =>
        have g2 := h2 (by simp [hdep])
        unfold OpSteps
        simp [go_sem, evS, g2]
        refine (HAlx.out W (below_nx HB4.out hT)).mono ?_
        rintro e W' ⟨g9, c9, rfl, ho, hg, hb⟩
        refine ⟨_, rfl, ?_⟩
        exact ⟨kpw h0, fun h => by simpa [sput] using (h1 (by simpa [did] using h)).below hb, kpw h2, fun _ => ⟨g9, c9, by simp [sput], ho, Nat.le_trans hT.size hg⟩, kpw h4, fun h => by simpa [sput] using (h5 (by simpa [did] using h)).below hb, fun h => by simpa [sput] using (h6 (by simpa [did] using h)).below hb, fun h => by simpa [sput] using (h7 (by simpa [did] using h)).below hb, fun h => by simpa [sput] using (h8 (by simpa [did] using h)).below hb, fun h => by simpa [sput] using (h9 (by simpa [did] using h)).below hb, fun h => by have := x7 (by simpa [did] using h); simp [hd] at this, fun h => by simpa [sput] using (h11 (by simpa [did] using h)).below hb, by simpa [sput, did] using x0, by simpa [sput, did] using x1, by simpa [sput, did] using x2, by simpa [sput, did] using x3, fun e1 _ => by have hq := (h1 (by simpa [did] using e1)).lb_lt; simp [sput, lb_vec]; omega, by simpa [sput, did] using x5, by simpa [sput, did] using x6, fun _ => by simp [did], by simpa [sput, did] using x8, below_nx hT hb⟩
    · as_aux_lemma =>
        unfold OpSteps
        obtain ⟨p0, p1, p2, p3⟩ := cells4w (Hy4.out.below hT Hy4.out.lt)
        simp [go_sem, evS, f7, p0, p1, p2, p3]
        exact ⟨kpw h0, fun h => by simpa [sput] using h1 (by simpa [did] using h), kpw h2, fun h => by simpa [sput] using h3 (by simpa [did] using h), fun _ => by simp [sput], fun h => by simpa [sput] using h5 (by simpa [did] using h), fun h => by simpa [sput] using h6 (by simpa [did] using h), fun h => by simpa [sput] using h7 (by simpa [did] using h), fun h => by simpa [sput] using h8 (by simpa [did] using h), fun h => by simpa [sput] using h9 (by simpa [did] using h), fun h => by simpa [sput] using h10 (by simpa [did] using h), fun h => by simpa [sput] using h11 (by simpa [did] using h), by simpa [sput, did] using x0, by simpa [sput, did] using x1, by simpa [sput, did] using x2, by simpa [sput, did] using x3, by simpa [sput, did] using x4, by simpa [sput, did] using x5, by simpa [sput, did] using x6, by simpa [sput, did] using x7, by simpa [sput, did] using x8, hT⟩
    · as_aux_lemma =>
        have g4 := h4 (by simp [hdep])
        unfold OpSteps
        simp [go_sem, evS, g4]
        refine (HAly.out W (below_nx HB4.out hT)).mono ?_
        rintro e W' ⟨g9, c9, rfl, ho, hg, hb⟩
        refine ⟨_, rfl, ?_⟩
        exact ⟨kpw h0, fun h => by simpa [sput] using (h1 (by simpa [did] using h)).below hb, kpw h2, fun h => by simpa [sput] using (h3 (by simpa [did] using h)).below hb, kpw h4, fun _ => ⟨g9, c9, by simp [sput], ho, Nat.le_trans hT.size hg⟩, fun h => by simpa [sput] using (h6 (by simpa [did] using h)).below hb, fun h => by simpa [sput] using (h7 (by simpa [did] using h)).below hb, fun h => by simpa [sput] using (h8 (by simpa [did] using h)).below hb, fun h => by simpa [sput] using (h9 (by simpa [did] using h)).below hb, fun h => by simpa [sput] using (h10 (by simpa [did] using h)).below hb, fun h => by have := x8 (by simpa [did] using h); simp [hd] at this, by simpa [sput, did] using x0, by simpa [sput, did] using x1, by simpa [sput, did] using x2, by simpa [sput, did] using x3, by simpa [sput, did] using x4, fun e1 _ => by have hq := (h1 (by simpa [did] using e1)).lb_lt; simp [sput, lb_vec]; omega, by simpa [sput, did] using x6, by simpa [sput, did] using x7, fun _ => by simp [did], below_nx hT hb⟩
    · as_aux_lemma =>
        unfold OpSteps
        simp [go_sem, evS]
        exact ⟨kpw h0, fun h => by simpa [sput] using (h1 (by simpa [did] using h)).below below_one, kpw h2, fun h => by simpa [sput] using (h3 (by simpa [did] using h)).below below_one, kpw h4, fun h => by simpa [sput] using (h5 (by simpa [did] using h)).below below_one, fun _ => ⟨W.heap.size, _, _, _, _, _, by simp [sput], Blk.new W _ _, hT.size⟩, fun h => by simpa [sput] using (h7 (by simpa [did] using h)).below below_one, fun h => by simpa [sput] using (h8 (by simpa [did] using h)).below below_one, fun h => by have := x0 (by simpa [did] using h); simp [hd] at this, fun h => by simpa [sput] using (h10 (by simpa [did] using h)).below below_one, fun h => by simpa [sput] using (h11 (by simpa [did] using h)).below below_one, fun _ => by simp [did], by simpa [sput, did] using x1, by simpa [sput, did] using x2, by simpa [sput, did] using x3, by simpa [sput, did] using x4, by simpa [sput, did] using x5, by simpa [sput, did] using x6, by simpa [sput, did] using x7, by simpa [sput, did] using x8, below_al hT⟩
    · as_aux_lemma =>
        unfold OpSteps
        simp [go_sem, evS]
        exact ⟨kpw h0, fun h => by simpa [sput] using (h1 (by simpa [did] using h)).below below_one, kpw h2, fun h => by simpa [sput] using (h3 (by simpa [did] using h)).below below_one, kpw h4, fun h => by simpa [sput] using (h5 (by simpa [did] using h)).below below_one, fun h => by simpa [sput] using (h6 (by simpa [did] using h)).below below_one, fun _ => ⟨W.heap.size, _, _, _, _, by simp [sput], Blk.new W _ _, hT.size⟩, fun h => by simpa [sput] using (h8 (by simpa [did] using h)).below below_one, fun h => by simpa [sput] using (h9 (by simpa [did] using h)).below below_one, fun h => by have := x1 (by simpa [did] using h); simp [hd] at this, fun h => by simpa [sput] using (h11 (by simpa [did] using h)).below below_one, by simpa [sput, did] using x0, fun _ => by simp [did], by simpa [sput, did] using x2, fun _ e8 => by have hq := (h8 (by simpa [did] using e8)).new_ne; simp [sput]; exact fun e => hq e.symm, by simpa [sput, did] using x4, by simpa [sput, did] using x5, by simpa [sput, did] using x6, by simpa [sput, did] using x7, by simpa [sput, did] using x8, below_al hT⟩
    · as_aux_lemma =>
        unfold OpSteps
        simp [go_sem, evS]
        exact ⟨kpw h0, fun h => by simpa [sput] using (h1 (by simpa [did] using h)).below below_one, kpw h2, fun h => by simpa [sput] using (h3 (by simpa [did] using h)).below below_one, kpw h4, fun h => by simpa [sput] using (h5 (by simpa [did] using h)).below below_one, fun h => by simpa [sput] using (h6 (by simpa [did] using h)).below below_one, fun h => by simpa [sput] using (h7 (by simpa [did] using h)).below below_one, fun _ => ⟨W.heap.size, _, _, _, _, by simp [sput], Blk.new W _ _, hT.size⟩, fun h => by simpa [sput] using (h9 (by simpa [did] using h)).below below_one, fun h => by simpa [sput] using (h10 (by simpa [did] using h)).below below_one, fun h => by have := x2 (by simpa [did] using h); simp [hd] at this, by simpa [sput, did] using x0, by simpa [sput, did] using x1, fun _ => by simp [did], fun e7 _ => by have hq := (h7 (by simpa [did] using e7)).new_ne; simp [sput]; exact hq, by simpa [sput, did] using x4, by simpa [sput, did] using x5, by simpa [sput, did] using x6, by simpa [sput, did] using x7, by simpa [sput, did] using x8, below_al hT⟩
    · as_aux_lemma =>
        have g6 := h6 (by simp [hdep])
        have g1 := h1 (by simp [hdep])
        unfold OpSteps
        obtain ⟨p9, z0, z1, z2, z3, z4, gp, hB9, hlo⟩ := g6
        obtain ⟨g9, c9, gv, gO, gz⟩ := g1
        obtain ⟨fr0, fr1, fr2, fr3, fr4⟩ := frozen5w hB9
        obtain ⟨k0, k1, k2, k3, k4⟩ := cells5 hB9
        have hfar : ∀ k9, k9 ≠ p9 → _ := fun k9 (hk9 : k9 ≠ p9) => heap_sets5 (w := W) hk9 (.slice (some ⟨g9, 0, none⟩) nm c9) (.int .i64 (o : Int)) (.int .i64 (R : Int)) (.int .i64 (C : Int)) (.int .i64 (L : Int))
        simp [go_sem, evS, gp, gv, fr0, fr1, fr2, fr3, fr4, k0, k1, k2, k3, k4]
        exact ⟨kpw h0, fun h => by simpa [sput] using (h1 (by simpa [did] using h)).far hB9 (by decide) hfar, kpw h2, fun h => by simpa [sput] using (h3 (by simpa [did] using h)).far hB9 (by decide) hfar, kpw h4, fun h => by simpa [sput] using (h5 (by simpa [did] using h)).far hB9 (by decide) hfar, fun h => ⟨p9, _, _, _, _, _, by simpa [sput] using gp, Blk.store5 hB9 _ _ _ _ _, hlo⟩, fun h => by simpa [sput] using (h7 (by simpa [did] using h)).far ((h7 (by simpa [did] using h)).ne_ hB9 (by decide)) hfar, fun h => by simpa [sput] using (h8 (by simpa [did] using h)).far ((h8 (by simpa [did] using h)).ne_ hB9 (by decide)) hfar, fun _ => by simp only [sput, gv, lb_mat]; exact ⟨p9, c9, by simpa using gp, Blk.store5 hB9 _ _ _ _ _, own_off gO (own_ne gO hB9 (by decide)) hfar, hlo, gz⟩, fun h => by simpa [sput] using (h10 (by simpa [did] using h)).far hB9 (by decide) ((h7 (x1 (by simpa [did] using h))).ne_ hB9 (by decide)) hfar, fun h => by simpa [sput] using (h11 (by simpa [did] using h)).far hB9 (by decide) ((h8 (x2 (by simpa [did] using h))).ne_ hB9 (by decide)) hfar, fun _ => by simp [did, hdep], by simpa [sput, did] using x1, by simpa [sput, did] using x2, by simpa [sput, did] using x3, by simpa [sput, did] using x4, by simpa [sput, did] using x5, fun _ => by simp [did, hdep], by simpa [sput, did] using x7, by simpa [sput, did] using x8, below_sets5 hT hlo _ _ _ _ _⟩
    · as_aux_lemma =>
        have g7 := h7 (by simp [hdep])
        have g3 := h3 (by simp [hdep])
        unfold OpSteps
        obtain ⟨p9, z0, z1, z2, z3, gp, hB9, hlo⟩ := g7
        obtain ⟨g9, c9, gv, gO, gz⟩ := g3
        have e7 : d 7 = true := by simp [hdep]
        obtain ⟨fr0, fr1, fr2, fr3⟩ := frozen4w hB9
        obtain ⟨k0, k1, k2, k3⟩ := cells4w hB9
        have hfar : ∀ k9, k9 ≠ p9 → _ := fun k9 (hk9 : k9 ≠ p9) => heap_sets4 (w := W) hk9 (.slice (some ⟨g9, 0, none⟩) nx c9) (.int .i64 (ox : Int)) (.int .i64 (R : Int)) (.int .i64 (ix : Int))
        simp [go_sem, evS, gp, gv, fr0, fr1, fr2, fr3, k0, k1, k2, k3]
        exact ⟨kpw h0, fun h => by simpa [sput] using (h1 (by simpa [did] using h)).far hB9 (by decide) hfar, kpw h2, fun h => by simpa [sput] using (h3 (by simpa [did] using h)).far hB9 (by decide) hfar, kpw h4, fun h => by simpa [sput] using (h5 (by simpa [did] using h)).far hB9 (by decide) hfar, fun h => by simpa [sput] using (h6 (by simpa [did] using h)).far ((h6 (by simpa [did] using h)).ne_ hB9 (by decide)) hfar, fun h => ⟨p9, _, _, _, _, by simpa [sput] using gp, Blk.store4v hB9 _ _ _ _, hlo⟩, fun h => by simpa [sput] using (h8 (by simpa [did] using h)).far (fun e => x3 e7 (by simpa [did] using h) (gp.trans e.symm)) hfar, fun h => by simpa [sput] using (h9 (by simpa [did] using h)).far hB9 (by decide) ((h6 (x0 (by simpa [did] using h))).ne_ hB9 (by decide)) hfar, fun _ => by simp only [sput, gv, lb_vec]; exact ⟨p9, c9, by simpa using gp, Blk.store4v hB9 _ _ _ _, own_off gO (own_ne gO hB9 (by decide)) hfar, hlo, gz⟩, fun h => by simpa [sput] using (h11 (by simpa [did] using h)).far hB9 (by decide) (fun e => x3 e7 (x2 (by simpa [did] using h)) (gp.trans e.symm)) hfar, by simpa [sput, did] using x0, fun _ => by simp [did, hdep], by simpa [sput, did] using x2, by simpa [sput, did] using x3, by simpa [sput, did] using x4, by simpa [sput, did] using x5, by simpa [sput, did] using x6, fun _ => by simp [did, hdep], by simpa [sput, did] using x8, below_sets4 hT hlo _ _ _ _⟩
    · as_aux_lemma =>
        have g8 := h8 (by simp [hdep])
        have g5 := h5 (by simp [hdep])
        unfold OpSteps
        obtain ⟨p9, z0, z1, z2, z3, gp, hB9, hlo⟩ := g8
        obtain ⟨g9, c9, gv, gO, gz⟩ := g5
        have e7 : d 8 = true := by simp [hdep]
        obtain ⟨fr0, fr1, fr2, fr3⟩ := frozen4w hB9
        obtain ⟨k0, k1, k2, k3⟩ := cells4w hB9
        have hfar : ∀ k9, k9 ≠ p9 → _ := fun k9 (hk9 : k9 ≠ p9) => heap_sets4 (w := W) hk9 (.slice (some ⟨g9, 0, none⟩) ny c9) (.int .i64 (oy : Int)) (.int .i64 (C : Int)) (.int .i64 (iy : Int))
        simp [go_sem, evS, gp, gv, fr0, fr1, fr2, fr3, k0, k1, k2, k3]
        exact ⟨kpw h0, fun h => by simpa [sput] using (h1 (by simpa [did] using h)).far hB9 (by decide) hfar, kpw h2, fun h => by simpa [sput] using (h3 (by simpa [did] using h)).far hB9 (by decide) hfar, kpw h4, fun h => by simpa [sput] using (h5 (by simpa [did] using h)).far hB9 (by decide) hfar, fun h => by simpa [sput] using (h6 (by simpa [did] using h)).far ((h6 (by simpa [did] using h)).ne_ hB9 (by decide)) hfar, fun h => by simpa [sput] using (h7 (by simpa [did] using h)).far (fun e => x3 (by simpa [did] using h) e7 (e.trans gp.symm)) hfar, fun h => ⟨p9, _, _, _, _, by simpa [sput] using gp, Blk.store4v hB9 _ _ _ _, hlo⟩, fun h => by simpa [sput] using (h9 (by simpa [did] using h)).far hB9 (by decide) ((h6 (x0 (by simpa [did] using h))).ne_ hB9 (by decide)) hfar, fun h => by simpa [sput] using (h10 (by simpa [did] using h)).far hB9 (by decide) (fun e => x3 (x1 (by simpa [did] using h)) e7 (e.trans gp.symm)) hfar, fun _ => by simp only [sput, gv, lb_vec]; exact ⟨p9, c9, by simpa using gp, Blk.store4v hB9 _ _ _ _, own_off gO (own_ne gO hB9 (by decide)) hfar, hlo, gz⟩, by simpa [sput, did] using x0, by simpa [sput, did] using x1, fun _ => by simp [did, hdep], by simpa [sput, did] using x3, by simpa [sput, did] using x4, by simpa [sput, did] using x5, by simpa [sput, did] using x6, by simpa [sput, did] using x7, fun _ => by simp [did, hdep], below_sets4 hT hlo _ _ _ _⟩
  intro d s W hJ hd
  obtain ⟨h0, h1, h2, h3, h4, h5, h6, h7, h8, h9, h10, h11, x0, x1, x2, x3, x4, x5, x6, x7, x8, hT⟩ := hJ
  have hd1 := hd 1 (by decide)
  have hgx := x4 hd1 (hd 3 (by decide))
  have hgy := x5 hd1 (hd 5 (by decide))
  have h9' := h9 (hd 9 (by decide))
  have h10' := h10 (hd 10 (by decide))
  have h11' := h11 (hd 11 (by decide))
  have hpq0 := x3 (hd 7 (by decide)) (hd 8 (by decide))
  clear h0 h1 h2 h3 h4 h5 h6 h7 h8 h9 h10 h11 x0 x1 x2 x3 x4 x5 x6 x7 x8 hd hd1
  generalize lb (s 59) = gn at *
  generalize lb (s 61) = gp at *
  generalize lb (s 63) = gq at *
  obtain ⟨pn, cn, hs11, hBn, hOn, hnl, hgl⟩ := h9'
  obtain ⟨pp, cp9, hs12, hBp, hOp, hpl, hgl2⟩ := h10'
  obtain ⟨pq, cq9, hs13, hBq, hOq, hql, hgl3⟩ := h11'
  have hpq : pp ≠ pq := fun e => hpq0 (by rw [hs12, hs13, e])
  have hnp : pn ≠ pp := blk_ne hBn hBp (by decide)
  have hnq : pn ≠ pq := blk_ne hBn hBq (by decide)
  have hb : Below w4.heap.size w4 W := hT
  clear hpq0 hT
  simp [setAll, hs11, hs12, hs13]
  clear hs11 hs12 hs13
  generalize s 58 = s58
  generalize s 59 = s59
  generalize s 60 = s60
  generalize s 61 = s61
  generalize s 62 = s62
  generalize s 63 = s63
  have hy5 : w.heap.size + 1 + 1 < w4.heap.size := Hm4.out.lt
  have HNe := Lib.hid (show gn ≠ gp ∧ gn ≠ gq ∧ pp ≠ pq ∧ pn ≠ pp ∧ pn ≠ pq ∧ w.heap.size + 1 + 1 < pn ∧ w.heap.size + 1 + 1 < pp ∧ w.heap.size + 1 + 1 < pq ∧ w.heap.size + 1 + 1 < gn from by refine ⟨hgx, hgy, hpq, hnp, hnq, by omega, by omega, by omega, by omega⟩)
  clear hy5 hpq hnp hnq hgx hgy hnl hgl hpl hgl2 hql hgl3
  generalize hW6 : W = w6 at *
  clear hW6
  have Hx5 := Lib.hid (Hx4.out.nxt hb)
  have Hy5 := Lib.hid (Hy4.out.nxt hb)
  have Hm5 := Lib.hid (Hm4.out.nxt hb)
  have HB5 := Lib.hid (below_nx HB4.out hb)
  clear hb
  clear x0 x1 x2 x3 y0 y1 y2 y3 m0 m1 m2 m3 m4
  obtain ⟨x0, x1, x2, x3⟩ := cells4w Hx5.out
  obtain ⟨y0, y1, y2, y3⟩ := cells4w Hy5.out
  obtain ⟨m0, m1, m2, m3, m4⟩ := cells5 Hm5.out
  clear Hx4 Hy4 Hm4 HB4
  have Hn5 := Lib.hid hBn
  have Hp5 := Lib.hid hBp
  have Hq5 := Lib.hid hBq
  have Hu5 := Lib.hid hOn
  have Hv5 := Lib.hid hOp
  have Ht5 := Lib.hid hOq
  clear hBn hBp hBq hOn hOp hOq
  clear x0 x1 x2 x3 y0 y1 y2 y3 m0 m1 m2 m3 m4
  clear HAp HAlx HAly HGr HLx HLy
  obtain ⟨x0, x1, x2, x3⟩ := cells4w Hx5.out
  obtain ⟨y0, y1, y2, y3⟩ := cells4w Hy5.out
  obtain ⟨m0, m1, m2, m3, m4⟩ := cells5 Hm5.out
  obtain ⟨n0, n1, n2, n3, n4⟩ := cells5 Hn5.out
  obtain ⟨p0, p1, p2, p3⟩ := cells4w Hp5.out
  obtain ⟨q0, q1, q2, q3⟩ := cells4w Hq5.out
  go_wp2_with fail
  refine (HPr.out _ gn cn gp cp9 gq cq9 HNe.out.1.symm HNe.out.2.1.symm Hu5.out Hv5.out Ht5.out).mono ?_
  rintro e w8 ⟨rfl, l1, ho1, hi1, hc⟩
  have Hx6 := Lib.hid (hc.blk (fun h => own_ne Hu5.out Hx5.out (by decide) (List.mem_singleton.1 h).symm) Hx5.out)
  have Hy6 := Lib.hid (hc.blk (fun h => own_ne Hu5.out Hy5.out (by decide) (List.mem_singleton.1 h).symm) Hy5.out)
  have Hm6 := Lib.hid (hc.blk (fun h => own_ne Hu5.out Hm5.out (by decide) (List.mem_singleton.1 h).symm) Hm5.out)
  have Hn6 := Lib.hid (hc.blk (fun h => own_ne Hu5.out Hn5.out (by decide) (List.mem_singleton.1 h).symm) Hn5.out)
  have Hp6 := Lib.hid (hc.blk (fun h => own_ne Hu5.out Hp5.out (by decide) (List.mem_singleton.1 h).symm) Hp5.out)
  have Hq6 := Lib.hid (hc.blk (fun h => own_ne Hu5.out Hq5.out (by decide) (List.mem_singleton.1 h).symm) Hq5.out)
  have Hu6 := Lib.hid ho1
  have HI := Lib.hid hi1
  have Hv6 := Lib.hid (hc.own (fun h => HNe.out.1 (List.mem_singleton.1 h).symm) Hv5.out)
  have Ht6 := Lib.hid (hc.own (fun h => HNe.out.2.1 (List.mem_singleton.1 h).symm) Ht5.out)
  have HB6 := Lib.hid (hc.below HB5.out HB5.out.size (fun x hx => by have := HNe.out; simp at hx; omega))
  clear ho1 hi1 hc HPr
  clear Hx5 Hy5 Hm5 Hn5 Hp5 Hq5 Hu5 Hv5 Ht5 HB5
  clear x0 x1 x2 x3 y0 y1 y2 y3 m0 m1 m2 m3 m4 n0 n1 n2 n3 n4 p0 p1 p2 p3 q0 q1 q2 q3
  obtain ⟨x0, x1, x2, x3⟩ := cells4w Hx6.out
  obtain ⟨y0, y1, y2, y3⟩ := cells4w Hy6.out
  obtain ⟨m0, m1, m2, m3, m4⟩ := cells5 Hm6.out
  obtain ⟨n0, n1, n2, n3, n4⟩ := cells5 Hn6.out
  obtain ⟨p0, p1, p2, p3⟩ := cells4w Hp6.out
  obtain ⟨q0, q1, q2, q3⟩ := cells4w Hq6.out
  go_wp2_with fail
  refine (HRx.out _).mono ?_
  rintro e we0 ⟨rfl, hb⟩
  have Hx7 := Lib.hid (Hx6.out.nxt hb)
  have Hy7 := Lib.hid (Hy6.out.nxt hb)
  have Hm7 := Lib.hid (Hm6.out.nxt hb)
  have Hn7 := Lib.hid (Hn6.out.nxt hb)
  have Hp7 := Lib.hid (Hp6.out.nxt hb)
  have Hq7 := Lib.hid (Hq6.out.nxt hb)
  have Hu7 := Lib.hid (Hu6.out.nxt hb)
  have Hv7 := Lib.hid (Hv6.out.nxt hb)
  have Ht7 := Lib.hid (Ht6.out.nxt hb)
  have HB7 := Lib.hid (below_nx HB6.out hb)
  clear hb
  clear x0 x1 x2 x3 y0 y1 y2 y3 m0 m1 m2 m3 m4 n0 n1 n2 n3 n4 p0 p1 p2 p3 q0 q1 q2 q3
  obtain ⟨x0, x1, x2, x3⟩ := cells4w Hx7.out
  obtain ⟨y0, y1, y2, y3⟩ := cells4w Hy7.out
  obtain ⟨m0, m1, m2, m3, m4⟩ := cells5 Hm7.out
  obtain ⟨n0, n1, n2, n3, n4⟩ := cells5 Hn7.out
  obtain ⟨p0, p1, p2, p3⟩ := cells4w Hp7.out
  obtain ⟨q0, q1, q2, q3⟩ := cells4w Hq7.out
  clear Hx6 Hy6 Hm6 Hn6 Hp6 Hq6 Hu6 Hv6 Ht6 HB6
  go_wp2_with fail
  refine (HRy.out _).mono ?_
  rintro e we1 ⟨rfl, hb⟩
  have Hx8 := Lib.hid (Hx7.out.nxt hb)
  have Hy8 := Lib.hid (Hy7.out.nxt hb)
  have Hm8 := Lib.hid (Hm7.out.nxt hb)
  have Hn8 := Lib.hid (Hn7.out.nxt hb)
  have Hp8 := Lib.hid (Hp7.out.nxt hb)
  have Hq8 := Lib.hid (Hq7.out.nxt hb)
  have Hu8 := Lib.hid (Hu7.out.nxt hb)
  have Hv8 := Lib.hid (Hv7.out.nxt hb)
  have Ht8 := Lib.hid (Ht7.out.nxt hb)
  have HB8 := Lib.hid (below_nx HB7.out hb)
  clear hb
  clear x0 x1 x2 x3 y0 y1 y2 y3 m0 m1 m2 m3 m4 n0 n1 n2 n3 n4 p0 p1 p2 p3 q0 q1 q2 q3
  obtain ⟨x0, x1, x2, x3⟩ := cells4w Hx8.out
  obtain ⟨y0, y1, y2, y3⟩ := cells4w Hy8.out
  obtain ⟨m0, m1, m2, m3, m4⟩ := cells5 Hm8.out
  obtain ⟨n0, n1, n2, n3, n4⟩ := cells5 Hn8.out
  obtain ⟨p0, p1, p2, p3⟩ := cells4w Hp8.out
  obtain ⟨q0, q1, q2, q3⟩ := cells4w Hq8.out
  clear Hx7 Hy7 Hm7 Hn7 Hp7 Hq7 Hu7 Hv7 Ht7 HB7
  go_wp2_with fail
  refine (HGm.out _).mono ?_
  rintro e we2 ⟨rfl, hb⟩
  have Hx9 := Lib.hid (Hx8.out.nxt hb)
  have Hy9 := Lib.hid (Hy8.out.nxt hb)
  have Hm9 := Lib.hid (Hm8.out.nxt hb)
  have Hn9 := Lib.hid (Hn8.out.nxt hb)
  have Hp9 := Lib.hid (Hp8.out.nxt hb)
  have Hq9 := Lib.hid (Hq8.out.nxt hb)
  have Hu9 := Lib.hid (Hu8.out.nxt hb)
  have Hv9 := Lib.hid (Hv8.out.nxt hb)
  have Ht9 := Lib.hid (Ht8.out.nxt hb)
  have HB9 := Lib.hid (below_nx HB8.out hb)
  clear hb
  clear x0 x1 x2 x3 y0 y1 y2 y3 m0 m1 m2 m3 m4 n0 n1 n2 n3 n4 p0 p1 p2 p3 q0 q1 q2 q3
  obtain ⟨x0, x1, x2, x3⟩ := cells4w Hx9.out
  obtain ⟨y0, y1, y2, y3⟩ := cells4w Hy9.out
  obtain ⟨m0, m1, m2, m3, m4⟩ := cells5 Hm9.out
  obtain ⟨n0, n1, n2, n3, n4⟩ := cells5 Hn9.out
  obtain ⟨p0, p1, p2, p3⟩ := cells4w Hp9.out
  obtain ⟨q0, q1, q2, q3⟩ := cells4w Hq9.out
  clear Hx8 Hy8 Hm8 Hn8 Hp8 Hq8 Hu8 Hv8 Ht8 HB8
  go_wp2_with fail
  refine (HMs.out _).mono ?_
  rintro e we3 ⟨rfl, hb⟩
  have Hx10 := Lib.hid (Hx9.out.nxt hb)
  have Hy10 := Lib.hid (Hy9.out.nxt hb)
  have Hm10 := Lib.hid (Hm9.out.nxt hb)
  have Hn10 := Lib.hid (Hn9.out.nxt hb)
  have Hp10 := Lib.hid (Hp9.out.nxt hb)
  have Hq10 := Lib.hid (Hq9.out.nxt hb)
  have Hu10 := Lib.hid (Hu9.out.nxt hb)
  have Hv10 := Lib.hid (Hv9.out.nxt hb)
  have Ht10 := Lib.hid (Ht9.out.nxt hb)
  have HB10 := Lib.hid (below_nx HB9.out hb)
  clear hb
  clear x0 x1 x2 x3 y0 y1 y2 y3 m0 m1 m2 m3 m4 n0 n1 n2 n3 n4 p0 p1 p2 p3 q0 q1 q2 q3
  obtain ⟨x0, x1, x2, x3⟩ := cells4w Hx10.out
  obtain ⟨y0, y1, y2, y3⟩ := cells4w Hy10.out
  obtain ⟨m0, m1, m2, m3, m4⟩ := cells5 Hm10.out
  obtain ⟨n0, n1, n2, n3, n4⟩ := cells5 Hn10.out
  obtain ⟨p0, p1, p2, p3⟩ := cells4w Hp10.out
  obtain ⟨q0, q1, q2, q3⟩ := cells4w Hq10.out
  clear Hx9 Hy9 Hm9 Hn9 Hp9 Hq9 Hu9 Hv9 Ht9 HB9
  go_wp2_with fail
  refine (HVx.out _).mono ?_
  rintro e we4 ⟨rfl, hb⟩
  have Hx11 := Lib.hid (Hx10.out.nxt hb)
  have Hy11 := Lib.hid (Hy10.out.nxt hb)
  have Hm11 := Lib.hid (Hm10.out.nxt hb)
  have Hn11 := Lib.hid (Hn10.out.nxt hb)
  have Hp11 := Lib.hid (Hp10.out.nxt hb)
  have Hq11 := Lib.hid (Hq10.out.nxt hb)
  have Hu11 := Lib.hid (Hu10.out.nxt hb)
  have Hv11 := Lib.hid (Hv10.out.nxt hb)
  have Ht11 := Lib.hid (Ht10.out.nxt hb)
  have HB11 := Lib.hid (below_nx HB10.out hb)
  clear hb
  clear x0 x1 x2 x3 y0 y1 y2 y3 m0 m1 m2 m3 m4 n0 n1 n2 n3 n4 p0 p1 p2 p3 q0 q1 q2 q3
  obtain ⟨x0, x1, x2, x3⟩ := cells4w Hx11.out
  obtain ⟨y0, y1, y2, y3⟩ := cells4w Hy11.out
  obtain ⟨m0, m1, m2, m3, m4⟩ := cells5 Hm11.out
  obtain ⟨n0, n1, n2, n3, n4⟩ := cells5 Hn11.out
  obtain ⟨p0, p1, p2, p3⟩ := cells4w Hp11.out
  obtain ⟨q0, q1, q2, q3⟩ := cells4w Hq11.out
  clear Hx10 Hy10 Hm10 Hn10 Hp10 Hq10 Hu10 Hv10 Ht10 HB10
  go_wp2_with fail
  refine (HVy.out _).mono ?_
  rintro e we5 ⟨rfl, hb⟩
  have Hx12 := Lib.hid (Hx11.out.nxt hb)
  have Hy12 := Lib.hid (Hy11.out.nxt hb)
  have Hm12 := Lib.hid (Hm11.out.nxt hb)
  have Hn12 := Lib.hid (Hn11.out.nxt hb)
  have Hp12 := Lib.hid (Hp11.out.nxt hb)
  have Hq12 := Lib.hid (Hq11.out.nxt hb)
  have Hu12 := Lib.hid (Hu11.out.nxt hb)
  have Hv12 := Lib.hid (Hv11.out.nxt hb)
  have Ht12 := Lib.hid (Ht11.out.nxt hb)
  have HB12 := Lib.hid (below_nx HB11.out hb)
  clear hb
  clear x0 x1 x2 x3 y0 y1 y2 y3 m0 m1 m2 m3 m4 n0 n1 n2 n3 n4 p0 p1 p2 p3 q0 q1 q2 q3
  obtain ⟨x0, x1, x2, x3⟩ := cells4w Hx12.out
  obtain ⟨y0, y1, y2, y3⟩ := cells4w Hy12.out
  obtain ⟨m0, m1, m2, m3, m4⟩ := cells5 Hm12.out
  obtain ⟨n0, n1, n2, n3, n4⟩ := cells5 Hn12.out
  obtain ⟨p0, p1, p2, p3⟩ := cells4w Hp12.out
  obtain ⟨q0, q1, q2, q3⟩ := cells4w Hq12.out
  clear Hx11 Hy11 Hm11 Hn11 Hp11 Hq11 Hu11 Hv11 Ht11 HB11
  go_wp2_with fail
  refine wp_region_inv [185, 186, 187, 188, 189, 190, 191, 192, 193, 194, 22] (fun d s W => (d 0 = true → s 185 = .agg #[.slice Am nm cm, .int .i64 (o : Int), .int .i64 (R : Int), .int .i64 (C : Int), .int .i64 (L : Int)]) ∧ (d 1 = true → s 186 = .float .f64 a) ∧ (d 2 = true → s 187 = .agg #[.slice Ax nx cx, .int .i64 (ox : Int), .int .i64 (R : Int), .int .i64 (ix : Int)]) ∧ (d 3 = true → SlG W (s 188) (fun z => z = X1) R) ∧ (d 4 = true → s 189 = .agg #[.slice Ay ny cy, .int .i64 (oy : Int), .int .i64 (C : Int), .int .i64 (iy : Int)]) ∧ (d 5 = true → SlG W (s 190) (fun z => z = Y1) C) ∧ (d 6 = true → s 191 = .agg #[.slice Am nm cm, .int .i64 (o : Int), .int .i64 (R : Int), .int .i64 (C : Int), .int .i64 (L : Int)]) ∧ (d 7 = true → TbG W (s 192) (Tab lm o R C L N) R C N) ∧ (d 8 = true → TbG W (s 193) (GerS a lx ox ix ly oy iy lm o R C L N) R C N) ∧ (d 9 = true → SlG W (s 194) (fun l2 => ∃ T, GerS a lx ox ix ly oy iy lm o R C L N T ∧ Img lm o R C L (fun i j => T.getD (i * C + j) 0) l2) nm) ∧ (d 10 = true → SlG W (s 22) (fun l2 => ∃ T, GerS a lx ox ix ly oy iy lm o R C L N T ∧ Img lm o R C L (fun i j => T.getD (i * C + j) 0) l2) nm) ∧ Below we5.heap.size we5 W)
    rfl (by kernel_rfl) ?_ ?_ ?_
  · exact ⟨by simp, by simp, by simp, by simp, by simp, by simp, by simp, by simp, by simp, by simp, by simp, (Below.refl _ _).drew⟩
  · refine ⟨?_, ?_, ?_, ?_, ?_, ?_, ?_, ?_, ?_, ?_, ?_, trivial⟩
    all_goals
      intro d s W hJ hfr hd hdep
      simp only [List.mem_cons, forall_eq_or_imp, List.not_mem_nil, false_implies, implies_true, and_true, Region.binds] at hdep
      have f0 := hfr 0 (by decide)
      have f6 := hfr 6 (by decide)
      have f7 := hfr 7 (by decide)
      have f8 := hfr 8 (by decide)
      simp at f0 f6 f7 f8 hdep
      obtain ⟨h0, h1, h2, h3, h4, h5, h6, h7, h8, h9, h10, hT⟩ := hJ
    · as_aux_lemma =>
        unfold OpSteps
        obtain ⟨p0, p1, p2, p3, p4⟩ := cells5 (Hm12.out.below hT Hm12.out.lt)
        simp [go_sem, evS, f8, p0, p1, p2, p3, p4]
        exact ⟨fun _ => by simp [sput], kpw h1, kpw h2, fun h => by simpa [sput] using h3 (by simpa [did] using h), kpw h4, fun h => by simpa [sput] using h5 (by simpa [did] using h), kpw h6, fun h => by simpa [sput] using h7 (by simpa [did] using h), fun h => by simpa [sput] using h8 (by simpa [did] using h), fun h => by simpa [sput] using h9 (by simpa [did] using h), fun h => by simpa [sput] using h10 (by simpa [did] using h), hT⟩
    · as_aux_lemma =>
        unfold OpSteps
        simp [go_sem, evS, f0]
        exact ⟨kpw h0, fun _ => by simp [sput], kpw h2, fun h => by simpa [sput] using h3 (by simpa [did] using h), kpw h4, fun h => by simpa [sput] using h5 (by simpa [did] using h), kpw h6, fun h => by simpa [sput] using h7 (by simpa [did] using h), fun h => by simpa [sput] using h8 (by simpa [did] using h), fun h => by simpa [sput] using h9 (by simpa [did] using h), fun h => by simpa [sput] using h10 (by simpa [did] using h), hT⟩
    · as_aux_lemma =>
        unfold OpSteps
        obtain ⟨p0, p1, p2, p3⟩ := cells4w (Hx12.out.below hT Hx12.out.lt)
        simp [go_sem, evS, f6, p0, p1, p2, p3]
        exact ⟨kpw h0, kpw h1, fun _ => by simp [sput], fun h => by simpa [sput] using h3 (by simpa [did] using h), kpw h4, fun h => by simpa [sput] using h5 (by simpa [did] using h), kpw h6, fun h => by simpa [sput] using h7 (by simpa [did] using h), fun h => by simpa [sput] using h8 (by simpa [did] using h), fun h => by simpa [sput] using h9 (by simpa [did] using h), fun h => by simpa [sput] using h10 (by simpa [did] using h), hT⟩
    · as_aux_lemma =>
        have g2 := h2 (by simp [hdep])
        unfold OpSteps
        simp [go_sem, evS, g2]
        refine (HLsx.out W (below_nx HB12.out hT)).mono ?_
        rintro e W' ⟨B9, d9, rfl, hr9, hb⟩
        refine ⟨_, rfl, ?_⟩
        exact ⟨kpw h0, kpw h1, kpw h2, fun _ => ⟨B9, d9, X1, by simp [sput], rfl, hr9⟩, kpw h4, fun h => by simpa [sput] using (h5 (by simpa [did] using h)).below hb, kpw h6, fun h => by simpa [sput] using (h7 (by simpa [did] using h)).below hb, fun h => by simpa [sput] using (h8 (by simpa [did] using h)).below hb, fun h => by simpa [sput] using (h9 (by simpa [did] using h)).below hb, fun h => by simpa [sput] using (h10 (by simpa [did] using h)).below hb, below_nx hT hb⟩
    · as_aux_lemma =>
        unfold OpSteps
        obtain ⟨p0, p1, p2, p3⟩ := cells4w (Hy12.out.below hT Hy12.out.lt)
        simp [go_sem, evS, f7, p0, p1, p2, p3]
        exact ⟨kpw h0, kpw h1, kpw h2, fun h => by simpa [sput] using h3 (by simpa [did] using h), fun _ => by simp [sput], fun h => by simpa [sput] using h5 (by simpa [did] using h), kpw h6, fun h => by simpa [sput] using h7 (by simpa [did] using h), fun h => by simpa [sput] using h8 (by simpa [did] using h), fun h => by simpa [sput] using h9 (by simpa [did] using h), fun h => by simpa [sput] using h10 (by simpa [did] using h), hT⟩
    · as_aux_lemma =>
        have g4 := h4 (by simp [hdep])
        unfold OpSteps
        simp [go_sem, evS, g4]
        refine (HLsy.out W (below_nx HB12.out hT)).mono ?_
        rintro e W' ⟨B9, d9, rfl, hr9, hb⟩
        refine ⟨_, rfl, ?_⟩
        exact ⟨kpw h0, kpw h1, kpw h2, fun h => by simpa [sput] using (h3 (by simpa [did] using h)).below hb, kpw h4, fun _ => ⟨B9, d9, Y1, by simp [sput], rfl, hr9⟩, kpw h6, fun h => by simpa [sput] using (h7 (by simpa [did] using h)).below hb, fun h => by simpa [sput] using (h8 (by simpa [did] using h)).below hb, fun h => by simpa [sput] using (h9 (by simpa [did] using h)).below hb, fun h => by simpa [sput] using (h10 (by simpa [did] using h)).below hb, below_nx hT hb⟩
    · as_aux_lemma =>
        unfold OpSteps
        obtain ⟨p0, p1, p2, p3, p4⟩ := cells5 (Hm12.out.below hT Hm12.out.lt)
        simp [go_sem, evS, f8, p0, p1, p2, p3, p4]
        exact ⟨kpw h0, kpw h1, kpw h2, fun h => by simpa [sput] using h3 (by simpa [did] using h), kpw h4, fun h => by simpa [sput] using h5 (by simpa [did] using h), fun _ => by simp [sput], fun h => by simpa [sput] using h7 (by simpa [did] using h), fun h => by simpa [sput] using h8 (by simpa [did] using h), fun h => by simpa [sput] using h9 (by simpa [did] using h), fun h => by simpa [sput] using h10 (by simpa [did] using h), hT⟩
    · as_aux_lemma =>
        have g6 := h6 (by simp [hdep])
        unfold OpSteps
        simp [go_sem, evS, g6]
        refine (HOf.out W (below_nx HB12.out hT)).mono ?_
        rintro e W' ⟨q9, T9, rfl, hS9, hr9, hb⟩
        refine ⟨_, rfl, ?_⟩
        exact ⟨kpw h0, kpw h1, kpw h2, fun h => by simpa [sput] using (h3 (by simpa [did] using h)).below hb, kpw h4, fun h => by simpa [sput] using (h5 (by simpa [did] using h)).below hb, kpw h6, fun _ => ⟨q9, N, T9, by simp [sput], hS9, hr9⟩, fun h => by simpa [sput] using (h8 (by simpa [did] using h)).below hb, fun h => by simpa [sput] using (h9 (by simpa [did] using h)).below hb, fun h => by simpa [sput] using (h10 (by simpa [did] using h)).below hb, below_nx hT hb⟩
    · as_aux_lemma =>
        have g1 := h1 (by simp [hdep])
        have g3 := h3 (by simp [hdep])
        have g5 := h5 (by simp [hdep])
        have g7 := h7 (by simp [hdep])
        unfold OpSteps
        obtain ⟨A8, a8, X8, gv3, rfl, gR3⟩ := g3
        obtain ⟨B8, b8, Y8, gv5, rfl, gR5⟩ := g5
        obtain ⟨q8, c8, T8, gv7, gS7, gR7⟩ := g7
        simp [go_sem, evS, g1, gv3, gv5, gv7]
        refine (HRg.out A8 B8 a8 b8 q8 c8 T8 W gR3 gR5 gS7 gR7).mono ?_
        rintro e W' ⟨q9, c9, T9, rfl, hS9, hr9, hb⟩
        refine ⟨_, rfl, ?_⟩
        exact ⟨kpw h0, kpw h1, kpw h2, fun h => by simpa [sput] using (h3 (by simpa [did] using h)).below hb, kpw h4, fun h => by simpa [sput] using (h5 (by simpa [did] using h)).below hb, kpw h6, fun h => by simpa [sput] using (h7 (by simpa [did] using h)).below hb, fun _ => ⟨q9, c9, T9, by simp [sput], hS9, hr9⟩, fun h => by simpa [sput] using (h9 (by simpa [did] using h)).below hb, fun h => by simpa [sput] using (h10 (by simpa [did] using h)).below hb, below_nx hT hb⟩
    · as_aux_lemma =>
        have g0 := h0 (by simp [hdep])
        have g8 := h8 (by simp [hdep])
        unfold OpSteps
        obtain ⟨q8, c8, T8, gv8, gS8, gR8⟩ := g8
        simp [go_sem, evS, g0, gv8]
        refine (HIn.out q8 c8 T8 W (below_nx HB12.out hT) gS8 gR8).mono ?_
        rintro e W' ⟨B9, d9, X9, rfl, hS9, hr9, hb⟩
        refine ⟨_, rfl, ?_⟩
        exact ⟨kpw h0, kpw h1, kpw h2, fun h => by simpa [sput] using (h3 (by simpa [did] using h)).below hb, kpw h4, fun h => by simpa [sput] using (h5 (by simpa [did] using h)).below hb, kpw h6, fun h => by simpa [sput] using (h7 (by simpa [did] using h)).below hb, fun h => by simpa [sput] using (h8 (by simpa [did] using h)).below hb, fun _ => ⟨B9, d9, X9, by simp [sput], hS9, hr9⟩, fun h => by simpa [sput] using (h10 (by simpa [did] using h)).below hb, below_nx hT hb⟩
    · as_aux_lemma =>
        have g9 := h9 (by simp [hdep])
        unfold OpSteps
        obtain ⟨B8, b8, Y8, gv9, gS9, gR9⟩ := g9
        simp [go_sem, evS, gv9]
        exact ⟨kpw h0, kpw h1, kpw h2, fun h => by simpa [sput] using h3 (by simpa [did] using h), kpw h4, fun h => by simpa [sput] using h5 (by simpa [did] using h), kpw h6, fun h => by simpa [sput] using h7 (by simpa [did] using h), fun h => by simpa [sput] using h8 (by simpa [did] using h), fun h => by simpa [sput] using h9 (by simpa [did] using h), fun _ => ⟨B8, b8, Y8, by simp [sput], gS9, gR9⟩, hT⟩
  intro d s W hJ hd
  obtain ⟨h0, h1, h2, h3, h4, h5, h6, h7, h8, h9, h10, hT⟩ := hJ
  obtain ⟨B9, d9, l9, hs22, hI9, hR9⟩ := h10 (hd 10 (by decide))
  have hb : Below we5.heap.size we5 W := hT
  have HI9 := Lib.hid hI9
  clear h0 h1 h2 h3 h4 h5 h6 h7 h8 h9 h10 hT hd hI9
  simp [setAll, hs22]
  clear hs22
  generalize s 185 = s185
  generalize s 186 = s186
  generalize s 187 = s187
  generalize s 188 = s188
  generalize s 189 = s189
  generalize s 190 = s190
  generalize s 191 = s191
  generalize s 192 = s192
  generalize s 193 = s193
  generalize s 194 = s194
  generalize W = wg at *
  have Hx13 := Lib.hid (Hx12.out.nxt hb)
  have Hy13 := Lib.hid (Hy12.out.nxt hb)
  have Hm13 := Lib.hid (Hm12.out.nxt hb)
  have Hn13 := Lib.hid (Hn12.out.nxt hb)
  have Hp13 := Lib.hid (Hp12.out.nxt hb)
  have Hq13 := Lib.hid (Hq12.out.nxt hb)
  have Hu13 := Lib.hid (Hu12.out.nxt hb)
  have Hv13 := Lib.hid (Hv12.out.nxt hb)
  have Ht13 := Lib.hid (Ht12.out.nxt hb)
  have HB13 := Lib.hid (below_nx HB12.out hb)
  clear hb
  clear x0 x1 x2 x3 y0 y1 y2 y3 m0 m1 m2 m3 m4 n0 n1 n2 n3 n4 p0 p1 p2 p3 q0 q1 q2 q3
  obtain ⟨x0, x1, x2, x3⟩ := cells4w Hx13.out
  obtain ⟨y0, y1, y2, y3⟩ := cells4w Hy13.out
  obtain ⟨m0, m1, m2, m3, m4⟩ := cells5 Hm13.out
  obtain ⟨n0, n1, n2, n3, n4⟩ := cells5 Hn13.out
  obtain ⟨p0, p1, p2, p3⟩ := cells4w Hp13.out
  obtain ⟨q0, q1, q2, q3⟩ := cells4w Hq13.out
  clear Hx12 Hy12 Hm12 Hn12 Hp12 Hq12 Hu12 Hv12 Ht12 HB12
  have Hr13 := Lib.hid hR9
  clear hR9
  go_wp2_with fail
  refine (HFin.out _ _ _ _ _ _ _ HI.out HI9.out Hu13.out.row Hr13.out).mono ?_
  rintro e wh ⟨rfl, hb⟩
  have Hx14 := Lib.hid (Hx13.out.nxt hb)
  have Hy14 := Lib.hid (Hy13.out.nxt hb)
  have Hm14 := Lib.hid (Hm13.out.nxt hb)
  have Hn14 := Lib.hid (Hn13.out.nxt hb)
  have Hp14 := Lib.hid (Hp13.out.nxt hb)
  have Hq14 := Lib.hid (Hq13.out.nxt hb)
  have Hu14 := Lib.hid (Hu13.out.nxt hb)
  have Hv14 := Lib.hid (Hv13.out.nxt hb)
  have Ht14 := Lib.hid (Ht13.out.nxt hb)
  have Hr14 := Lib.hid (Hr13.out.below hb)
  have HB14 := Lib.hid (below_nx HB13.out hb)
  clear hb
  clear x0 x1 x2 x3 y0 y1 y2 y3 m0 m1 m2 m3 m4 n0 n1 n2 n3 n4 p0 p1 p2 p3 q0 q1 q2 q3
  obtain ⟨x0, x1, x2, x3⟩ := cells4w Hx14.out
  obtain ⟨y0, y1, y2, y3⟩ := cells4w Hy14.out
  obtain ⟨m0, m1, m2, m3, m4⟩ := cells5 Hm14.out
  obtain ⟨n0, n1, n2, n3, n4⟩ := cells5 Hn14.out
  obtain ⟨p0, p1, p2, p3⟩ := cells4w Hp14.out
  obtain ⟨q0, q1, q2, q3⟩ := cells4w Hq14.out
  clear Hx13 Hy13 Hm13 Hn13 Hp13 Hq13 Hu13 Hv13 Ht13 Hr13 HB13
  go_wp2_with fail
  refine (HAllx.out _ _ _ _ _ Hv14.out.row (HAx.out.below HB14.out)).mono ?_
  rintro e wi ⟨rfl, hb⟩
  have Hx15 := Lib.hid (Hx14.out.nxt hb)
  have Hy15 := Lib.hid (Hy14.out.nxt hb)
  have Hm15 := Lib.hid (Hm14.out.nxt hb)
  have Hn15 := Lib.hid (Hn14.out.nxt hb)
  have Hp15 := Lib.hid (Hp14.out.nxt hb)
  have Hq15 := Lib.hid (Hq14.out.nxt hb)
  have Hu15 := Lib.hid (Hu14.out.nxt hb)
  have Hv15 := Lib.hid (Hv14.out.nxt hb)
  have Ht15 := Lib.hid (Ht14.out.nxt hb)
  have Hr15 := Lib.hid (Hr14.out.below hb)
  have HB15 := Lib.hid (below_nx HB14.out hb)
  clear hb
  clear x0 x1 x2 x3 y0 y1 y2 y3 m0 m1 m2 m3 m4 n0 n1 n2 n3 n4 p0 p1 p2 p3 q0 q1 q2 q3
  obtain ⟨x0, x1, x2, x3⟩ := cells4w Hx15.out
  obtain ⟨y0, y1, y2, y3⟩ := cells4w Hy15.out
  obtain ⟨m0, m1, m2, m3, m4⟩ := cells5 Hm15.out
  obtain ⟨n0, n1, n2, n3, n4⟩ := cells5 Hn15.out
  obtain ⟨p0, p1, p2, p3⟩ := cells4w Hp15.out
  obtain ⟨q0, q1, q2, q3⟩ := cells4w Hq15.out
  clear Hx14 Hy14 Hm14 Hn14 Hp14 Hq14 Hu14 Hv14 Ht14 Hr14 HB14
  go_wp2_with fail
  refine (HAlly.out _ _ _ _ _ Ht15.out.row (HAy.out.below HB15.out)).mono ?_
  rintro e wj ⟨rfl, hb⟩
  have Hx16 := Lib.hid (Hx15.out.nxt hb)
  have Hy16 := Lib.hid (Hy15.out.nxt hb)
  have Hm16 := Lib.hid (Hm15.out.nxt hb)
  have Hn16 := Lib.hid (Hn15.out.nxt hb)
  have Hp16 := Lib.hid (Hp15.out.nxt hb)
  have Hq16 := Lib.hid (Hq15.out.nxt hb)
  have Hu16 := Lib.hid (Hu15.out.nxt hb)
  have Hv16 := Lib.hid (Hv15.out.nxt hb)
  have Ht16 := Lib.hid (Ht15.out.nxt hb)
  have Hr16 := Lib.hid (Hr15.out.below hb)
  have HB16 := Lib.hid (below_nx HB15.out hb)
  clear hb
  clear x0 x1 x2 x3 y0 y1 y2 y3 m0 m1 m2 m3 m4 n0 n1 n2 n3 n4 p0 p1 p2 p3 q0 q1 q2 q3
  obtain ⟨x0, x1, x2, x3⟩ := cells4w Hx16.out
  obtain ⟨y0, y1, y2, y3⟩ := cells4w Hy16.out
  obtain ⟨m0, m1, m2, m3, m4⟩ := cells5 Hm16.out
  obtain ⟨n0, n1, n2, n3, n4⟩ := cells5 Hn16.out
  obtain ⟨p0, p1, p2, p3⟩ := cells4w Hp16.out
  obtain ⟨q0, q1, q2, q3⟩ := cells4w Hq16.out
  clear Hx15 Hy15 Hm15 Hn15 Hp15 Hq15 Hu15 Hv15 Ht15 Hr15 HB15
  go_wp2_with fail
  refine (awake8_any _).mono ?_
  rintro e wk ⟨rfl, hb⟩
  have Hx17 := Lib.hid (Hx16.out.nxt hb)
  have Hy17 := Lib.hid (Hy16.out.nxt hb)
  have Hm17 := Lib.hid (Hm16.out.nxt hb)
  have Hn17 := Lib.hid (Hn16.out.nxt hb)
  have Hp17 := Lib.hid (Hp16.out.nxt hb)
  have Hq17 := Lib.hid (Hq16.out.nxt hb)
  have Hu17 := Lib.hid (Hu16.out.nxt hb)
  have Hv17 := Lib.hid (Hv16.out.nxt hb)
  have Ht17 := Lib.hid (Ht16.out.nxt hb)
  have Hr17 := Lib.hid (Hr16.out.below hb)
  have HB17 := Lib.hid (below_nx HB16.out hb)
  clear hb
  clear x0 x1 x2 x3 y0 y1 y2 y3 m0 m1 m2 m3 m4 n0 n1 n2 n3 n4 p0 p1 p2 p3 q0 q1 q2 q3
  obtain ⟨x0, x1, x2, x3⟩ := cells4w Hx17.out
  obtain ⟨y0, y1, y2, y3⟩ := cells4w Hy17.out
  obtain ⟨m0, m1, m2, m3, m4⟩ := cells5 Hm17.out
  obtain ⟨n0, n1, n2, n3, n4⟩ := cells5 Hn17.out
  obtain ⟨p0, p1, p2, p3⟩ := cells4w Hp17.out
  obtain ⟨q0, q1, q2, q3⟩ := cells4w Hq17.out
  clear Hx16 Hy16 Hm16 Hn16 Hp16 Hq16 Hu16 Hv16 Ht16 Hr16 HB16
  go_wp2_with fail
  go_ret
  exact ⟨rfl, HB17.out⟩

end Go.Proofs.Ytmjaakngiilmdaa
