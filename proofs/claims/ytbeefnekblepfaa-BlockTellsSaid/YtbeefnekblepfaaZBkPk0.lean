/-
BlockTells, no error. Conditions: as each says.
-/
import Derived.Test.YtbeefnekblepfaaUbac
import Derived.Test.YtbeefnekblepfaaZBkH
import Derived.Test.YtbeefnekblepfaaUbad
set_option linter.unusedVariables false
set_option linter.unusedSimpArgs false
set_option linter.unnecessarySimpa false
namespace Go.Proofs.Ytbeefnekblepfaa
open Go.RowKit
attribute [local go_sem ↓] Go.wp_at_zero Go.wp_at_succ

set_option maxRecDepth 100000 in
set_option maxHeartbeats 4000000 in
theorem blockTells_ok0 (s1 s2 s3 : Nat) (a b : Nat) (Ax : Option Addr) (nx cx : Nat) (lx : List Nat) (Ay : Option Addr) (ny cy : Nat) (ly : List Nat) (Am : Option Addr) (nm cm : Nat) (lm : List Nat) (ox Lx oy Ly o L R K C : Nat) (one : Int) (w : World) (hAx : Row w Ax (f64s lx)) (hAy : Row w Ay (f64s ly)) (hAm : Row w Am (f64s lm)) (hWx : Wds lx) (hWy : Wds ly) (hWm : Wds lm) (hlx : lx.length = nx) (hly : ly.length = ny) (hlm : lm.length = nm) (hnx : nx ≤ 1000) (hny : ny ≤ 1000) (hnm : nm ≤ 1000) (hG : (greatB nx (R : Int) (K : Int) || greatB ny (K : Int) (C : Int) || greatB nm (R : Int) (C : Int)) = false) (f1 : (one == 1) = false) (f2 : (one == 2) = false) (hs1 : 1 ≤ s1 ∧ s1 < 9223372036854775808) (hs2 : 1 ≤ s2 ∧ s2 < 9223372036854775808) (hs3 : 1 ≤ s3 ∧ s3 < 9223372036854775808) (ha : a < 18446744073709551616) (hb0 : b < 18446744073709551616) (hRb : R ≤ 20) (hKb : K ≤ 20) (hCb : C ≤ 20) (hiox : I64 ox) (hilx : I64 Lx) (hLx : 1 ≤ Lx) (hRLx : R ≤ Lx) (hrx : R = 0 ∨ K = 0 ∨ ox + (K - 1) * Lx + (R - 1) < nx) (hioy : I64 oy) (hily : I64 Ly) (hLy : 1 ≤ Ly) (hRLy : K ≤ Ly) (hry : K = 0 ∨ C = 0 ∨ oy + (C - 1) * Ly + (K - 1) < ny) (hiom : I64 o) (hilm : I64 L) (hLm : 1 ≤ L) (hRLm : R ≤ L) (hrm : R = 0 ∨ C = 0 ∨ o + (C - 1) * L + (R - 1) < nm) (hCk : ∀ W, Calls Try.prog 10 #[mat Ax nx cx ox R K Lx, mat Ay ny cy oy K C Ly, mat Am nm cm o R C L, .int .i64 one] W fun e w' => e = .returned (.int .i64 0) ∧ Below W.heap.size W w') :
    Calls Try.prog 3 #[.agg #[.int .i64 (s1 : Int), .int .i64 (s2 : Int), .int .i64 (s3 : Int)], .float .f64 a, mat Ax nx cx ox R K Lx, mat Ay ny cy oy K C Ly, .float .f64 b, mat Am nm cm o R C L, .int .i64 one] w fun e w' => e = .returned (.bool true) ∧ Below w.heap.size w w' := by
  have hRI : I64 (R : Int) := by unfold I64; omega
  have hKI : I64 (K : Int) := by unfold I64; omega
  have hCI : I64 (C : Int) := by unfold I64; omega
  have hrt : sizB (s1 : Int) (s2 : Int) (s3 : Int) = true := by unfold sizB; simp; omega
  have HGr := Lib.hid (fun W => bgreat_any Ax nx cx ox R K Lx Ay ny cy oy K C Ly Am nm cm o R C L W)
  rw [hG] at HGr
  have HRr := Lib.hid (fun W => rright13_any (s1 : Int) (s2 : Int) (s3 : Int) W)
  have HRb := Lib.hid (fun W => bkright_any (s1 : Int) (s2 : Int) (s3 : Int) W)
  rw [hrt] at HRr HRb
  have HCk := Lib.hid hCk
  have HApm := Lib.hid (apart_c Am nm cm lm o R C L w hAm hlm (by omega))
  have HApx := Lib.hid (apart_c Ax nx cx lx ox R K Lx w hAx hlx (by omega))
  have HApy := Lib.hid (apart_c Ay ny cy ly oy K C Ly w hAy hly (by omega))
  have HAllx := Lib.hid (all_c lx nx hWx hlx (by omega))
  have HAlly := Lib.hid (all_c ly ny hWy hly (by omega))
  have HAllm := Lib.hid (all_c lm nm hWm hlm (by omega))
  have HPr := Lib.hid (fun W (g cg gx cx9 gy cy9 : Nat) (h1 : gx ≠ g) (h2 : gy ≠ g) (hO : Own W g lm) (hX : Own W gx lx) (hY : Own W gy ly) => show Calls Try.prog 9 #[.agg #[.int .i64 (s1 : Int), .int .i64 (s2 : Int), .int .i64 (s3 : Int)], .float .f64 a, mat (some ⟨gx, 0, none⟩) nx cx9 ox R K Lx, mat (some ⟨gy, 0, none⟩) ny cy9 oy K C Ly, .float .f64 b, mat (some ⟨g, 0, none⟩) nm cg o R C L] W fun e w' => e = .returned (.int .i64 0) ∧ ∃ l', Own w' g l' ∧ Imr lm o R C L (BkP a b lm o L (rowF lx ox Lx) (colF ly oy Ly) (fun _ _ => K)) l' ∧ Chg [g] W w' from
    bkmul_own s1 s2 s3 a b gx cx9 nx lx ox Lx gy cy9 ny ly oy Ly g cg nm lm o L R K C W hs1 hs2 hs3 ha hb0 hX hlx (by omega) hWx hLx hRLx hrx hiox hilx hY hly (by omega) hWy hLy hRLy hry hioy hily hO hlm (by omega) hWm hLm hRLm hrm hiom hilm (by omega) (by omega) (by omega) (fun e => (h1 e).elim) (fun e => (h2 e).elim) (fun e => (h1 e).elim) (fun e => (h2 e).elim))
  obtain ⟨N, hN⟩ : ∃ N, R * C = N := ⟨_, rfl⟩
  obtain ⟨NX, hNX⟩ : ∃ N, R * K = N := ⟨_, rfl⟩
  obtain ⟨NY, hNY⟩ : ∃ N, K * C = N := ⟨_, rfl⟩
  have hN20 : N < 1048576 ∧ NX < 1048576 ∧ NY < 1048576 := by
    have h1 : R * C ≤ 20 * 20 := Nat.mul_le_mul hRb hCb
    have h2 : R * K ≤ 20 * 20 := Nat.mul_le_mul hRb hKb
    have h3 : K * C ≤ 20 * 20 := Nat.mul_le_mul hKb hCb
    omega
  have HOfx := Lib.hid (fun W (hb : Below w.heap.size w W) => show Calls Try.prog 15 #[mat Ax nx cx ox R K Lx] W fun e w' => ∃ g T, e = .returned (tbl R K g NX NX) ∧ Tab lx ox R K Lx NX T ∧ Row w' (some ⟨g, 0, none⟩) (f64s T) ∧ Below W.heap.size W w' from by
    refine (rof_any Ax nx cx lx ox R K Lx NX W (hAx.below hb) hlx (by omega) hNX (by omega) (by omega) (by omega) hrx).mono ?_
    rintro e w' ⟨g', T, e1, e2, e3, _, e4⟩
    exact ⟨g', T, e1, e2, e3, e4⟩)
  have HOfy := Lib.hid (fun W (hb : Below w.heap.size w W) => show Calls Try.prog 15 #[mat Ay ny cy oy K C Ly] W fun e w' => ∃ g T, e = .returned (tbl K C g NY NY) ∧ Tab ly oy K C Ly NY T ∧ Row w' (some ⟨g, 0, none⟩) (f64s T) ∧ Below W.heap.size W w' from by
    refine (rof_any Ay ny cy ly oy K C Ly NY W (hAy.below hb) hly (by omega) hNY (by omega) (by omega) (by omega) hry).mono ?_
    rintro e w' ⟨g', T, e1, e2, e3, _, e4⟩
    exact ⟨g', T, e1, e2, e3, e4⟩)
  have HOfm := Lib.hid (fun W (hb : Below w.heap.size w W) => show Calls Try.prog 15 #[mat Am nm cm o R C L] W fun e w' => ∃ g T, e = .returned (tbl R C g N N) ∧ Tab lm o R C L N T ∧ Row w' (some ⟨g, 0, none⟩) (f64s T) ∧ Below W.heap.size W w' from by
    refine (rof_any Am nm cm lm o R C L N W (hAm.below hb) hlm (by omega) hN (by omega) (by omega) (by omega) hrm).mono ?_
    rintro e w' ⟨g', T, e1, e2, e3, _, e4⟩
    exact ⟨g', T, e1, e2, e3, e4⟩)
  have HRg := Lib.hid (fun (g1 c1 g2 c2 g3 c3 : Nat) (T1 T2 T3 : List Nat) W (h1 : Tab lx ox R K Lx NX T1) (h2 : Tab ly oy K C Ly NY T2) (h3 : Tab lm o R C L N T3) (r1 : Row W (some ⟨g1, 0, none⟩) (f64s T1)) (r2 : Row W (some ⟨g2, 0, none⟩) (f64s T2)) (r3 : Row W (some ⟨g3, 0, none⟩) (f64s T3)) => show Calls Try.prog 14 #[.float .f64 a, tbl R K g1 NX c1, tbl K C g2 NY c2, .float .f64 b, tbl R C g3 N c3] W fun e w' => ∃ g c T', e = .returned (tbl R C g N c) ∧ (GeS a b lm o L lx ox Lx ly oy Ly R K C N) T' ∧ Row w' (some ⟨g, 0, none⟩) (f64s T') ∧ Below W.heap.size W w' from by
    refine (rgemul_any a b R K C g1 NX c1 T1 g2 NY c2 T2 g3 N c3 T3 W r1 (by rw [h1.1, hNX]) hNX r2 (by rw [h2.1, hNY]) hNY r3 (by rw [h3.1, hN]) hN hN20.1 hN20.2.1 hN20.2.2 (by omega) (by omega) (by omega)).mono ?_
    rintro e w' ⟨g', c', T', e1, e2, e3, e4, _, e5⟩
    exact ⟨g', c', T', e1, GeS.of_ref ha hb0 hWm hWx hWy hN hNX hNY h1 h2 h3 e3 e4, e2.row, e5⟩)
  have HIn := Lib.hid (fun (g c : Nat) (T : List Nat) W (hb : Below w.heap.size w W) (hT : (GeS a b lm o L lx ox Lx ly oy Ly R K C N) T) (h : Row W (some ⟨g, 0, none⟩) (f64s T)) => show Calls Try.prog 13 #[mat Am nm cm o R C L, tbl R C g N c] W fun e w' => ∃ B d X, e = .returned (.slice B nm d) ∧ (fun l2 => ∃ T, GeS a b lm o L lx ox Lx ly oy Ly R K C N T ∧ Img lm o R C L (fun i j => T.getD (i * C + j) 0) l2) X ∧ Row w' B (f64s X) ∧ Below W.heap.size W w' from by
    refine (rinto_any Am nm cm lm o R C L g N c T W (hAm.below hb) h hlm (by omega) hT.1 hN (by omega) (by omega) (by omega) (fun h0 => row_ltg h hT.1 h0) hLm hRLm hrm).mono ?_
    rintro e w' ⟨g', c', l', e1, e2, e3, _, e4⟩
    exact ⟨_, c', l', e1, ⟨T, hT, e3⟩, e2.row, e4⟩)
  have HFin := Lib.hid (fun W (A B : Option Addr) (c d : Nat) (X Y : List Nat) (hX : Imr lm o R C L (BkP a b lm o L (rowF lx ox Lx) (colF ly oy Ly) (fun _ _ => K)) X) (hY : (fun l2 => ∃ T, GeS a b lm o L lx ox Lx ly oy Ly R K C N T ∧ Img lm o R C L (fun i j => T.getD (i * C + j) 0) l2) Y) (h1 : Row W A (f64s X)) (h2 : Row W B (f64s Y)) => show Calls Try.prog 12 #[.slice A nm c, .slice B nm d] W fun e w' => e = .returned (.bool true) ∧ Below W.heap.size W w' from by
    obtain ⟨T, hT, hY⟩ := hY
    have hal : Alike X Y := alike_imge hX hY (fun i hi j hj r h => Is.same (show Is r (geF a b (lm.getD (o + i + j * L) 0) (fun k => lx.getD (ox + i + k * Lx) 0) (fun k => ly.getD (oy + k + j * Ly) 0) K) from h) (hT.2 i hi j hj))
    have hw1 : Wds X := wds_imre hWm hX (fun i _ j _ r h => h.lt)
    have hw2 : Wds Y := wds_img2e hWm hY (fun i hi j hj => (hT.2 i hi j hj).lt)
    have := rall_any A B c d X Y W hw1 hw2 h1 h2 (by rw [hX.1]; omega) hal
    rw [hX.1, hY.1, hlm] at this; exact this)
  clear hN hNX hNY hN20
  have HAm := Lib.hid hAm
  have HAx := Lib.hid hAx
  have HAy := Lib.hid hAy
  clear hAx hAy hAm hWx hWy hWm hlx hly hlm hnx hny hnm hG hCk hrt hs1 hs2 hs3 ha hb0 hRb hKb hCb hRI hKI hCI hiox hilx hLx hRLx hrx hioy hily hLy hRLy hry hiom hilm hLm hRLm hrm
  unfold mat tbl at *
  go_enter Try.func3, Try.ntmps3
  have Hj0 := Lib.hid ((((Blk.new w 22 #[.int .i64 (s1 : Int), .int .i64 (s2 : Int), .int .i64 (s3 : Int)]).alloc (.cells #[.slice Ax nx cx, .int .i64 (ox : Int), .int .i64 (R : Int), .int .i64 (K : Int), .int .i64 (Lx : Int)] 26)).alloc (.cells #[.slice Ay ny cy, .int .i64 (oy : Int), .int .i64 (K : Int), .int .i64 (C : Int), .int .i64 (Ly : Int)] 26)).alloc (.cells #[.slice Am nm cm, .int .i64 (o : Int), .int .i64 (R : Int), .int .i64 (C : Int), .int .i64 (L : Int)] 26))
  have Hx0 := Lib.hid (((Blk.new_ (w.alloc (.cells #[.int .i64 (s1 : Int), .int .i64 (s2 : Int), .int .i64 (s3 : Int)] 22)) 26 #[.slice Ax nx cx, .int .i64 (ox : Int), .int .i64 (R : Int), .int .i64 (K : Int), .int .i64 (Lx : Int)] (w.heap.size + 1) (by simp)).alloc (.cells #[.slice Ay ny cy, .int .i64 (oy : Int), .int .i64 (K : Int), .int .i64 (C : Int), .int .i64 (Ly : Int)] 26)).alloc (.cells #[.slice Am nm cm, .int .i64 (o : Int), .int .i64 (R : Int), .int .i64 (C : Int), .int .i64 (L : Int)] 26))
  have Hy0 := Lib.hid ((Blk.new_ ((w.alloc (.cells #[.int .i64 (s1 : Int), .int .i64 (s2 : Int), .int .i64 (s3 : Int)] 22)).alloc (.cells #[.slice Ax nx cx, .int .i64 (ox : Int), .int .i64 (R : Int), .int .i64 (K : Int), .int .i64 (Lx : Int)] 26)) 26 #[.slice Ay ny cy, .int .i64 (oy : Int), .int .i64 (K : Int), .int .i64 (C : Int), .int .i64 (Ly : Int)] (w.heap.size + 1 + 1) (by simp)).alloc (.cells #[.slice Am nm cm, .int .i64 (o : Int), .int .i64 (R : Int), .int .i64 (C : Int), .int .i64 (L : Int)] 26))
  have Hm0 := Lib.hid (Blk.new_ (((w.alloc (.cells #[.int .i64 (s1 : Int), .int .i64 (s2 : Int), .int .i64 (s3 : Int)] 22)).alloc (.cells #[.slice Ax nx cx, .int .i64 (ox : Int), .int .i64 (R : Int), .int .i64 (K : Int), .int .i64 (Lx : Int)] 26)).alloc (.cells #[.slice Ay ny cy, .int .i64 (oy : Int), .int .i64 (K : Int), .int .i64 (C : Int), .int .i64 (Ly : Int)] 26)) 26 #[.slice Am nm cm, .int .i64 (o : Int), .int .i64 (R : Int), .int .i64 (C : Int), .int .i64 (L : Int)] (w.heap.size + 1 + 1 + 1) (by simp))
  have HB0 := Lib.hid (((((Below.refl w.heap.size w).alloc (Nat.le_refl _) (.cells #[.int .i64 (s1 : Int), .int .i64 (s2 : Int), .int .i64 (s3 : Int)] 22)).alloc (by simp) (.cells #[.slice Ax nx cx, .int .i64 (ox : Int), .int .i64 (R : Int), .int .i64 (K : Int), .int .i64 (Lx : Int)] 26)).alloc (by simp; omega) (.cells #[.slice Ay ny cy, .int .i64 (oy : Int), .int .i64 (K : Int), .int .i64 (C : Int), .int .i64 (Ly : Int)] 26)).alloc (by simp; omega) (.cells #[.slice Am nm cm, .int .i64 (o : Int), .int .i64 (R : Int), .int .i64 (C : Int), .int .i64 (L : Int)] 26))
  obtain ⟨j0, j1, j2⟩ := cells3v Hj0.out
  obtain ⟨x0, x1, x2, x3, x4⟩ := cells5 Hx0.out
  obtain ⟨y0, y1, y2, y3, y4⟩ := cells5 Hy0.out
  obtain ⟨m0, m1, m2, m3, m4⟩ := cells5 Hm0.out
  go_wp2_with fail
  refine (awake13_any _).mono ?_
  rintro e w1 ⟨rfl, hb⟩
  have Hj1 := Lib.hid (Hj0.out.nxt hb)
  have Hx1 := Lib.hid (Hx0.out.nxt hb)
  have Hy1 := Lib.hid (Hy0.out.nxt hb)
  have Hm1 := Lib.hid (Hm0.out.nxt hb)
  have HB1 := Lib.hid (below_nx HB0.out hb)
  clear hb
  clear j0 j1 j2 x0 x1 x2 x3 x4 y0 y1 y2 y3 y4 m0 m1 m2 m3 m4
  obtain ⟨j0, j1, j2⟩ := cells3v Hj1.out
  obtain ⟨x0, x1, x2, x3, x4⟩ := cells5 Hx1.out
  obtain ⟨y0, y1, y2, y3, y4⟩ := cells5 Hy1.out
  obtain ⟨m0, m1, m2, m3, m4⟩ := cells5 Hm1.out
  clear Hj0 Hx0 Hy0 Hm0 HB0
  go_wp2_with fail
  refine (HGr.out _).mono ?_
  rintro e w2 ⟨rfl, hb⟩
  have Hj2 := Lib.hid (Hj1.out.nxt hb)
  have Hx2 := Lib.hid (Hx1.out.nxt hb)
  have Hy2 := Lib.hid (Hy1.out.nxt hb)
  have Hm2 := Lib.hid (Hm1.out.nxt hb)
  have HB2 := Lib.hid (below_nx HB1.out hb)
  clear hb
  clear j0 j1 j2 x0 x1 x2 x3 x4 y0 y1 y2 y3 y4 m0 m1 m2 m3 m4
  obtain ⟨j0, j1, j2⟩ := cells3v Hj2.out
  obtain ⟨x0, x1, x2, x3, x4⟩ := cells5 Hx2.out
  obtain ⟨y0, y1, y2, y3, y4⟩ := cells5 Hy2.out
  obtain ⟨m0, m1, m2, m3, m4⟩ := cells5 Hm2.out
  clear Hj1 Hx1 Hy1 Hm1 HB1
  go_wp2_with fail
  refine wp_region_inv [52, 53, 54, 55, 56, 57, 15, 16, 17] (fun d s W => (d 0 = true → s 52 = .agg #[.slice Ax nx cx, .int .i64 (ox : Int), .int .i64 (R : Int), .int .i64 (K : Int), .int .i64 (Lx : Int)]) ∧ (d 1 = true → OwM W (s 53) w2.heap.size lx nx (ox : Int) (R : Int) (K : Int) (Lx : Int)) ∧ (d 2 = true → s 54 = .agg #[.slice Ay ny cy, .int .i64 (oy : Int), .int .i64 (K : Int), .int .i64 (C : Int), .int .i64 (Ly : Int)]) ∧ (d 3 = true → OwM W (s 55) w2.heap.size ly ny (oy : Int) (K : Int) (C : Int) (Ly : Int)) ∧ (d 4 = true → s 56 = .agg #[.slice Am nm cm, .int .i64 (o : Int), .int .i64 (R : Int), .int .i64 (C : Int), .int .i64 (L : Int)]) ∧ (d 5 = true → OwM W (s 57) w2.heap.size lm nm (o : Int) (R : Int) (C : Int) (L : Int)) ∧ (d 6 = true → NbM W (s 15) w2.heap.size) ∧ (d 7 = true → NbM W (s 16) w2.heap.size) ∧ (d 8 = true → NbM W (s 17) w2.heap.size) ∧ (d 9 = true → PqM W (s 15) (lb (s 53)) w2.heap.size lx nx (ox : Int) (R : Int) (K : Int) (Lx : Int)) ∧ (d 10 = true → PqM W (s 16) (lb (s 55)) w2.heap.size ly ny (oy : Int) (K : Int) (C : Int) (Ly : Int)) ∧ (d 11 = true → PqM W (s 17) (lb (s 57)) w2.heap.size lm nm (o : Int) (R : Int) (C : Int) (L : Int)) ∧ (d 9 = true → d 6 = true) ∧ (d 10 = true → d 7 = true) ∧ (d 11 = true → d 8 = true) ∧ (d 6 = true → d 7 = true → s 15 ≠ s 16) ∧ (d 6 = true → d 8 = true → s 15 ≠ s 17) ∧ (d 7 = true → d 8 = true → s 16 ≠ s 17) ∧ (d 1 = true → d 3 = true → lb (s 53) ≠ lb (s 55)) ∧ (d 1 = true → d 5 = true → lb (s 53) ≠ lb (s 57)) ∧ (d 3 = true → d 5 = true → lb (s 55) ≠ lb (s 57)) ∧ (d 9 = true → d 1 = true) ∧ (d 10 = true → d 3 = true) ∧ (d 11 = true → d 5 = true) ∧ Below w2.heap.size w2 W)
    rfl (by kernel_rfl) ?_ ?_ ?_
  · exact ⟨by simp, by simp, by simp, by simp, by simp, by simp, by simp, by simp, by simp, by simp, by simp, by simp, by simp, by simp, by simp, by simp, by simp, by simp, by simp, by simp, by simp, by simp, by simp, by simp, (Below.refl _ _).drew⟩
  · refine ⟨?_, ?_, ?_, ?_, ?_, ?_, ?_, ?_, ?_, ?_, ?_, ?_, trivial⟩
    all_goals
      intro d s W hJ hfr hd hdep
      simp only [List.mem_cons, forall_eq_or_imp, List.not_mem_nil, false_implies, implies_true, and_true, Region.binds] at hdep
      have f9 := hfr 9 (by decide)
      have f10 := hfr 10 (by decide)
      have f12 := hfr 12 (by decide)
      simp at f9 f10 f12 hdep
      obtain ⟨h0, h1, h2, h3, h4, h5, h6, h7, h8, h9, h10, h11, x0, x1, x2, x3, x4, x5, x6, x7, x8, x9, x10, x11, hT⟩ := hJ
    · as_aux_lemma =>
        unfold OpSteps
        obtain ⟨p0, p1, p2, p3, p4⟩ := cells5 (Hx2.out.below hT Hx2.out.lt)
        simp [go_sem, evS, f9, p0, p1, p2, p3, p4]
        exact ⟨fun _ => by simp [sput], fun h => by simpa [sput] using h1 (by simpa [did] using h), kpw h2, fun h => by simpa [sput] using h3 (by simpa [did] using h), kpw h4, fun h => by simpa [sput] using h5 (by simpa [did] using h), fun h => by simpa [sput] using h6 (by simpa [did] using h), fun h => by simpa [sput] using h7 (by simpa [did] using h), fun h => by simpa [sput] using h8 (by simpa [did] using h), fun h => by simpa [sput] using h9 (by simpa [did] using h), fun h => by simpa [sput] using h10 (by simpa [did] using h), fun h => by simpa [sput] using h11 (by simpa [did] using h), by simpa [sput, did] using x0, by simpa [sput, did] using x1, by simpa [sput, did] using x2, by simpa [sput, did] using x3, by simpa [sput, did] using x4, by simpa [sput, did] using x5, by simpa [sput, did] using x6, by simpa [sput, did] using x7, by simpa [sput, did] using x8, by simpa [sput, did] using x9, by simpa [sput, did] using x10, by simpa [sput, did] using x11, hT⟩
    · as_aux_lemma =>
        have g0 := h0 (by simp [hdep])
        unfold OpSteps
        simp [go_sem, evS, g0]
        refine (HApx.out W (below_nx HB2.out hT)).mono ?_
        rintro e W' ⟨g9, c9, rfl, ho, hg, hb⟩
        refine ⟨_, rfl, ?_⟩
        exact ⟨kpw h0, fun _ => ⟨g9, c9, by simp [sput], ho, Nat.le_trans hT.size hg⟩, kpw h2, fun h => by simpa [sput] using (h3 (by simpa [did] using h)).below hb, kpw h4, fun h => by simpa [sput] using (h5 (by simpa [did] using h)).below hb, fun h => by simpa [sput] using (h6 (by simpa [did] using h)).below hb, fun h => by simpa [sput] using (h7 (by simpa [did] using h)).below hb, fun h => by simpa [sput] using (h8 (by simpa [did] using h)).below hb, fun h => by have := x9 (by simpa [did] using h); simp [hd] at this, fun h => by simpa [sput] using (h10 (by simpa [did] using h)).below hb, fun h => by simpa [sput] using (h11 (by simpa [did] using h)).below hb, by simpa [sput, did] using x0, by simpa [sput, did] using x1, by simpa [sput, did] using x2, by simpa [sput, did] using x3, by simpa [sput, did] using x4, by simpa [sput, did] using x5, fun _ e3 => by have hq := (h3 (by simpa [did] using e3)).lb_lt; simp [sput, lb_mat]; omega, fun _ e3 => by have hq := (h5 (by simpa [did] using e3)).lb_lt; simp [sput, lb_mat]; omega, by simpa [sput, did] using x8, fun _ => by simp [did], by simpa [sput, did] using x10, by simpa [sput, did] using x11, below_nx hT hb⟩
    · as_aux_lemma =>
        unfold OpSteps
        obtain ⟨p0, p1, p2, p3, p4⟩ := cells5 (Hy2.out.below hT Hy2.out.lt)
        simp [go_sem, evS, f10, p0, p1, p2, p3, p4]
        exact ⟨kpw h0, fun h => by simpa [sput] using h1 (by simpa [did] using h), fun _ => by simp [sput], fun h => by simpa [sput] using h3 (by simpa [did] using h), kpw h4, fun h => by simpa [sput] using h5 (by simpa [did] using h), fun h => by simpa [sput] using h6 (by simpa [did] using h), fun h => by simpa [sput] using h7 (by simpa [did] using h), fun h => by simpa [sput] using h8 (by simpa [did] using h), fun h => by simpa [sput] using h9 (by simpa [did] using h), fun h => by simpa [sput] using h10 (by simpa [did] using h), fun h => by simpa [sput] using h11 (by simpa [did] using h), by simpa [sput, did] using x0, by simpa [sput, did] using x1, by simpa [sput, did] using x2, by simpa [sput, did] using x3, by simpa [sput, did] using x4, by simpa [sput, did] using x5, by simpa [sput, did] using x6, by simpa [sput, did] using x7, by simpa [sput, did] using x8, by simpa [sput, did] using x9, by simpa [sput, did] using x10, by simpa [sput, did] using x11, hT⟩
    · as_aux_lemma =>
        have g2 := h2 (by simp [hdep])
        unfold OpSteps
        simp [go_sem, evS, g2]
        refine (HApy.out W (below_nx HB2.out hT)).mono ?_
        rintro e W' ⟨g9, c9, rfl, ho, hg, hb⟩
        refine ⟨_, rfl, ?_⟩
        exact ⟨kpw h0, fun h => by simpa [sput] using (h1 (by simpa [did] using h)).below hb, kpw h2, fun _ => ⟨g9, c9, by simp [sput], ho, Nat.le_trans hT.size hg⟩, kpw h4, fun h => by simpa [sput] using (h5 (by simpa [did] using h)).below hb, fun h => by simpa [sput] using (h6 (by simpa [did] using h)).below hb, fun h => by simpa [sput] using (h7 (by simpa [did] using h)).below hb, fun h => by simpa [sput] using (h8 (by simpa [did] using h)).below hb, fun h => by simpa [sput] using (h9 (by simpa [did] using h)).below hb, fun h => by have := x10 (by simpa [did] using h); simp [hd] at this, fun h => by simpa [sput] using (h11 (by simpa [did] using h)).below hb, by simpa [sput, did] using x0, by simpa [sput, did] using x1, by simpa [sput, did] using x2, by simpa [sput, did] using x3, by simpa [sput, did] using x4, by simpa [sput, did] using x5, fun e1 _ => by have hq := (h1 (by simpa [did] using e1)).lb_lt; simp [sput, lb_mat]; omega, by simpa [sput, did] using x7, fun _ e3 => by have hq := (h5 (by simpa [did] using e3)).lb_lt; simp [sput, lb_mat]; omega, by simpa [sput, did] using x9, fun _ => by simp [did], by simpa [sput, did] using x11, below_nx hT hb⟩
    · as_aux_lemma =>
        unfold OpSteps
        obtain ⟨p0, p1, p2, p3, p4⟩ := cells5 (Hm2.out.below hT Hm2.out.lt)
        simp [go_sem, evS, f12, p0, p1, p2, p3, p4]
        exact ⟨kpw h0, fun h => by simpa [sput] using h1 (by simpa [did] using h), kpw h2, fun h => by simpa [sput] using h3 (by simpa [did] using h), fun _ => by simp [sput], fun h => by simpa [sput] using h5 (by simpa [did] using h), fun h => by simpa [sput] using h6 (by simpa [did] using h), fun h => by simpa [sput] using h7 (by simpa [did] using h), fun h => by simpa [sput] using h8 (by simpa [did] using h), fun h => by simpa [sput] using h9 (by simpa [did] using h), fun h => by simpa [sput] using h10 (by simpa [did] using h), fun h => by simpa [sput] using h11 (by simpa [did] using h), by simpa [sput, did] using x0, by simpa [sput, did] using x1, by simpa [sput, did] using x2, by simpa [sput, did] using x3, by simpa [sput, did] using x4, by simpa [sput, did] using x5, by simpa [sput, did] using x6, by simpa [sput, did] using x7, by simpa [sput, did] using x8, by simpa [sput, did] using x9, by simpa [sput, did] using x10, by simpa [sput, did] using x11, hT⟩
    · as_aux_lemma =>
        have g4 := h4 (by simp [hdep])
        unfold OpSteps
        simp [go_sem, evS, g4]
        refine (HApm.out W (below_nx HB2.out hT)).mono ?_
        rintro e W' ⟨g9, c9, rfl, ho, hg, hb⟩
        refine ⟨_, rfl, ?_⟩
        exact ⟨kpw h0, fun h => by simpa [sput] using (h1 (by simpa [did] using h)).below hb, kpw h2, fun h => by simpa [sput] using (h3 (by simpa [did] using h)).below hb, kpw h4, fun _ => ⟨g9, c9, by simp [sput], ho, Nat.le_trans hT.size hg⟩, fun h => by simpa [sput] using (h6 (by simpa [did] using h)).below hb, fun h => by simpa [sput] using (h7 (by simpa [did] using h)).below hb, fun h => by simpa [sput] using (h8 (by simpa [did] using h)).below hb, fun h => by simpa [sput] using (h9 (by simpa [did] using h)).below hb, fun h => by simpa [sput] using (h10 (by simpa [did] using h)).below hb, fun h => by have := x11 (by simpa [did] using h); simp [hd] at this, by simpa [sput, did] using x0, by simpa [sput, did] using x1, by simpa [sput, did] using x2, by simpa [sput, did] using x3, by simpa [sput, did] using x4, by simpa [sput, did] using x5, by simpa [sput, did] using x6, fun e1 _ => by have hq := (h1 (by simpa [did] using e1)).lb_lt; simp [sput, lb_mat]; omega, fun e1 _ => by have hq := (h3 (by simpa [did] using e1)).lb_lt; simp [sput, lb_mat]; omega, by simpa [sput, did] using x9, by simpa [sput, did] using x10, fun _ => by simp [did], below_nx hT hb⟩
    · as_aux_lemma =>
        unfold OpSteps
        simp [go_sem, evS]
        exact ⟨kpw h0, fun h => by simpa [sput] using (h1 (by simpa [did] using h)).below below_one, kpw h2, fun h => by simpa [sput] using (h3 (by simpa [did] using h)).below below_one, kpw h4, fun h => by simpa [sput] using (h5 (by simpa [did] using h)).below below_one, fun _ => ⟨W.heap.size, _, _, _, _, _, by simp [sput], Blk.new W _ _, hT.size⟩, fun h => by simpa [sput] using (h7 (by simpa [did] using h)).below below_one, fun h => by simpa [sput] using (h8 (by simpa [did] using h)).below below_one, fun h => by have := x0 (by simpa [did] using h); simp [hd] at this, fun h => by simpa [sput] using (h10 (by simpa [did] using h)).below below_one, fun h => by simpa [sput] using (h11 (by simpa [did] using h)).below below_one, fun _ => by simp [did], by simpa [sput, did] using x1, by simpa [sput, did] using x2, fun _ e8 => by have hq := (h7 (by simpa [did] using e8)).new_ne; simp [sput]; exact fun e => hq e.symm, fun _ e8 => by have hq := (h8 (by simpa [did] using e8)).new_ne; simp [sput]; exact fun e => hq e.symm, by simpa [sput, did] using x5, by simpa [sput, did] using x6, by simpa [sput, did] using x7, by simpa [sput, did] using x8, by simpa [sput, did] using x9, by simpa [sput, did] using x10, by simpa [sput, did] using x11, below_al hT⟩
    · as_aux_lemma =>
        unfold OpSteps
        simp [go_sem, evS]
        exact ⟨kpw h0, fun h => by simpa [sput] using (h1 (by simpa [did] using h)).below below_one, kpw h2, fun h => by simpa [sput] using (h3 (by simpa [did] using h)).below below_one, kpw h4, fun h => by simpa [sput] using (h5 (by simpa [did] using h)).below below_one, fun h => by simpa [sput] using (h6 (by simpa [did] using h)).below below_one, fun _ => ⟨W.heap.size, _, _, _, _, _, by simp [sput], Blk.new W _ _, hT.size⟩, fun h => by simpa [sput] using (h8 (by simpa [did] using h)).below below_one, fun h => by simpa [sput] using (h9 (by simpa [did] using h)).below below_one, fun h => by have := x1 (by simpa [did] using h); simp [hd] at this, fun h => by simpa [sput] using (h11 (by simpa [did] using h)).below below_one, by simpa [sput, did] using x0, fun _ => by simp [did], by simpa [sput, did] using x2, fun e7 _ => by have hq := (h6 (by simpa [did] using e7)).new_ne; simp [sput]; exact hq, by simpa [sput, did] using x4, fun _ e8 => by have hq := (h8 (by simpa [did] using e8)).new_ne; simp [sput]; exact fun e => hq e.symm, by simpa [sput, did] using x6, by simpa [sput, did] using x7, by simpa [sput, did] using x8, by simpa [sput, did] using x9, by simpa [sput, did] using x10, by simpa [sput, did] using x11, below_al hT⟩
    · as_aux_lemma =>
        unfold OpSteps
        simp [go_sem, evS]
        exact ⟨kpw h0, fun h => by simpa [sput] using (h1 (by simpa [did] using h)).below below_one, kpw h2, fun h => by simpa [sput] using (h3 (by simpa [did] using h)).below below_one, kpw h4, fun h => by simpa [sput] using (h5 (by simpa [did] using h)).below below_one, fun h => by simpa [sput] using (h6 (by simpa [did] using h)).below below_one, fun h => by simpa [sput] using (h7 (by simpa [did] using h)).below below_one, fun _ => ⟨W.heap.size, _, _, _, _, _, by simp [sput], Blk.new W _ _, hT.size⟩, fun h => by simpa [sput] using (h9 (by simpa [did] using h)).below below_one, fun h => by simpa [sput] using (h10 (by simpa [did] using h)).below below_one, fun h => by have := x2 (by simpa [did] using h); simp [hd] at this, by simpa [sput, did] using x0, by simpa [sput, did] using x1, fun _ => by simp [did], by simpa [sput, did] using x3, fun e7 _ => by have hq := (h6 (by simpa [did] using e7)).new_ne; simp [sput]; exact hq, fun e7 _ => by have hq := (h7 (by simpa [did] using e7)).new_ne; simp [sput]; exact hq, by simpa [sput, did] using x6, by simpa [sput, did] using x7, by simpa [sput, did] using x8, by simpa [sput, did] using x9, by simpa [sput, did] using x10, by simpa [sput, did] using x11, below_al hT⟩
    · as_aux_lemma =>
        have g6 := h6 (by simp [hdep])
        have g1 := h1 (by simp [hdep])
        unfold OpSteps
        obtain ⟨p9, z0, z1, z2, z3, z4, gp, hB9, hlo⟩ := g6
        obtain ⟨g9, c9, gv, gO, gz⟩ := g1
        have e7 : d 6 = true := by simp [hdep]
        obtain ⟨fr0, fr1, fr2, fr3, fr4⟩ := frozen5w hB9
        obtain ⟨k0, k1, k2, k3, k4⟩ := cells5 hB9
        have hfar : ∀ k9, k9 ≠ p9 → _ := fun k9 (hk9 : k9 ≠ p9) => heap_sets5 (w := W) hk9 (.slice (some ⟨g9, 0, none⟩) nx c9) (.int .i64 (ox : Int)) (.int .i64 (R : Int)) (.int .i64 (K : Int)) (.int .i64 (Lx : Int))
        simp [go_sem, evS, gp, gv, fr0, fr1, fr2, fr3, fr4, k0, k1, k2, k3, k4]
        exact ⟨kpw h0, fun h => by simpa [sput] using (h1 (by simpa [did] using h)).far hB9 (by decide) hfar, kpw h2, fun h => by simpa [sput] using (h3 (by simpa [did] using h)).far hB9 (by decide) hfar, kpw h4, fun h => by simpa [sput] using (h5 (by simpa [did] using h)).far hB9 (by decide) hfar, fun h => ⟨p9, _, _, _, _, _, by simpa [sput] using gp, Blk.store5 hB9 _ _ _ _ _, hlo⟩, fun h => by simpa [sput] using (h7 (by simpa [did] using h)).far (fun e => x3 e7 (by simpa [did] using h) (gp.trans e.symm)) hfar, fun h => by simpa [sput] using (h8 (by simpa [did] using h)).far (fun e => x4 e7 (by simpa [did] using h) (gp.trans e.symm)) hfar, fun _ => by simp only [sput, gv, lb_mat]; exact ⟨p9, c9, by simpa using gp, Blk.store5 hB9 _ _ _ _ _, own_off gO (own_ne gO hB9 (by decide)) hfar, hlo, gz⟩, fun h => by simpa [sput] using (h10 (by simpa [did] using h)).far hB9 (by decide) (fun e => x3 e7 (x1 (by simpa [did] using h)) (gp.trans e.symm)) hfar, fun h => by simpa [sput] using (h11 (by simpa [did] using h)).far hB9 (by decide) (fun e => x4 e7 (x2 (by simpa [did] using h)) (gp.trans e.symm)) hfar, fun _ => by simp [did, hdep], by simpa [sput, did] using x1, by simpa [sput, did] using x2, by simpa [sput, did] using x3, by simpa [sput, did] using x4, by simpa [sput, did] using x5, by simpa [sput, did] using x6, by simpa [sput, did] using x7, by simpa [sput, did] using x8, fun _ => by simp [did, hdep], by simpa [sput, did] using x10, by simpa [sput, did] using x11, below_sets5 hT hlo _ _ _ _ _⟩
    · as_aux_lemma =>
        have g7 := h7 (by simp [hdep])
        have g3 := h3 (by simp [hdep])
        unfold OpSteps
        obtain ⟨p9, z0, z1, z2, z3, z4, gp, hB9, hlo⟩ := g7
        obtain ⟨g9, c9, gv, gO, gz⟩ := g3
        have e7 : d 7 = true := by simp [hdep]
        obtain ⟨fr0, fr1, fr2, fr3, fr4⟩ := frozen5w hB9
        obtain ⟨k0, k1, k2, k3, k4⟩ := cells5 hB9
        have hfar : ∀ k9, k9 ≠ p9 → _ := fun k9 (hk9 : k9 ≠ p9) => heap_sets5 (w := W) hk9 (.slice (some ⟨g9, 0, none⟩) ny c9) (.int .i64 (oy : Int)) (.int .i64 (K : Int)) (.int .i64 (C : Int)) (.int .i64 (Ly : Int))
        simp [go_sem, evS, gp, gv, fr0, fr1, fr2, fr3, fr4, k0, k1, k2, k3, k4]
        exact ⟨kpw h0, fun h => by simpa [sput] using (h1 (by simpa [did] using h)).far hB9 (by decide) hfar, kpw h2, fun h => by simpa [sput] using (h3 (by simpa [did] using h)).far hB9 (by decide) hfar, kpw h4, fun h => by simpa [sput] using (h5 (by simpa [did] using h)).far hB9 (by decide) hfar, fun h => by simpa [sput] using (h6 (by simpa [did] using h)).far (fun e => x3 (by simpa [did] using h) e7 (e.trans gp.symm)) hfar, fun h => ⟨p9, _, _, _, _, _, by simpa [sput] using gp, Blk.store5 hB9 _ _ _ _ _, hlo⟩, fun h => by simpa [sput] using (h8 (by simpa [did] using h)).far (fun e => x5 e7 (by simpa [did] using h) (gp.trans e.symm)) hfar, fun h => by simpa [sput] using (h9 (by simpa [did] using h)).far hB9 (by decide) (fun e => x3 (x0 (by simpa [did] using h)) e7 (e.trans gp.symm)) hfar, fun _ => by simp only [sput, gv, lb_mat]; exact ⟨p9, c9, by simpa using gp, Blk.store5 hB9 _ _ _ _ _, own_off gO (own_ne gO hB9 (by decide)) hfar, hlo, gz⟩, fun h => by simpa [sput] using (h11 (by simpa [did] using h)).far hB9 (by decide) (fun e => x5 e7 (x2 (by simpa [did] using h)) (gp.trans e.symm)) hfar, by simpa [sput, did] using x0, fun _ => by simp [did, hdep], by simpa [sput, did] using x2, by simpa [sput, did] using x3, by simpa [sput, did] using x4, by simpa [sput, did] using x5, by simpa [sput, did] using x6, by simpa [sput, did] using x7, by simpa [sput, did] using x8, by simpa [sput, did] using x9, fun _ => by simp [did, hdep], by simpa [sput, did] using x11, below_sets5 hT hlo _ _ _ _ _⟩
    · as_aux_lemma =>
        have g8 := h8 (by simp [hdep])
        have g5 := h5 (by simp [hdep])
        unfold OpSteps
        obtain ⟨p9, z0, z1, z2, z3, z4, gp, hB9, hlo⟩ := g8
        obtain ⟨g9, c9, gv, gO, gz⟩ := g5
        have e7 : d 8 = true := by simp [hdep]
        obtain ⟨fr0, fr1, fr2, fr3, fr4⟩ := frozen5w hB9
        obtain ⟨k0, k1, k2, k3, k4⟩ := cells5 hB9
        have hfar : ∀ k9, k9 ≠ p9 → _ := fun k9 (hk9 : k9 ≠ p9) => heap_sets5 (w := W) hk9 (.slice (some ⟨g9, 0, none⟩) nm c9) (.int .i64 (o : Int)) (.int .i64 (R : Int)) (.int .i64 (C : Int)) (.int .i64 (L : Int))
        simp [go_sem, evS, gp, gv, fr0, fr1, fr2, fr3, fr4, k0, k1, k2, k3, k4]
        exact ⟨kpw h0, fun h => by simpa [sput] using (h1 (by simpa [did] using h)).far hB9 (by decide) hfar, kpw h2, fun h => by simpa [sput] using (h3 (by simpa [did] using h)).far hB9 (by decide) hfar, kpw h4, fun h => by simpa [sput] using (h5 (by simpa [did] using h)).far hB9 (by decide) hfar, fun h => by simpa [sput] using (h6 (by simpa [did] using h)).far (fun e => x4 (by simpa [did] using h) e7 (e.trans gp.symm)) hfar, fun h => by simpa [sput] using (h7 (by simpa [did] using h)).far (fun e => x5 (by simpa [did] using h) e7 (e.trans gp.symm)) hfar, fun h => ⟨p9, _, _, _, _, _, by simpa [sput] using gp, Blk.store5 hB9 _ _ _ _ _, hlo⟩, fun h => by simpa [sput] using (h9 (by simpa [did] using h)).far hB9 (by decide) (fun e => x4 (x0 (by simpa [did] using h)) e7 (e.trans gp.symm)) hfar, fun h => by simpa [sput] using (h10 (by simpa [did] using h)).far hB9 (by decide) (fun e => x5 (x1 (by simpa [did] using h)) e7 (e.trans gp.symm)) hfar, fun _ => by simp only [sput, gv, lb_mat]; exact ⟨p9, c9, by simpa using gp, Blk.store5 hB9 _ _ _ _ _, own_off gO (own_ne gO hB9 (by decide)) hfar, hlo, gz⟩, by simpa [sput, did] using x0, by simpa [sput, did] using x1, fun _ => by simp [did, hdep], by simpa [sput, did] using x3, by simpa [sput, did] using x4, by simpa [sput, did] using x5, by simpa [sput, did] using x6, by simpa [sput, did] using x7, by simpa [sput, did] using x8, by simpa [sput, did] using x9, by simpa [sput, did] using x10, fun _ => by simp [did, hdep], below_sets5 hT hlo _ _ _ _ _⟩
  intro d s W hJ hd
  obtain ⟨h0, h1, h2, h3, h4, h5, h6, h7, h8, h9, h10, h11, x0, x1, x2, x3, x4, x5, x6, x7, x8, x9, x10, x11, hT⟩ := hJ
  have hgxy := x6 (hd 1 (by decide)) (hd 3 (by decide))
  have hgxm := x7 (hd 1 (by decide)) (hd 5 (by decide))
  have hgym := x8 (hd 3 (by decide)) (hd 5 (by decide))
  have h9' := h9 (hd 9 (by decide))
  have h10' := h10 (hd 10 (by decide))
  have h11' := h11 (hd 11 (by decide))
  have hpxy := x3 (hd 6 (by decide)) (hd 7 (by decide))
  have hpxm := x4 (hd 6 (by decide)) (hd 8 (by decide))
  have hpym := x5 (hd 7 (by decide)) (hd 8 (by decide))
  clear h0 h1 h2 h3 h4 h5 h6 h7 h8 h9 h10 h11 x0 x1 x2 x3 x4 x5 x6 x7 x8 x9 x10 x11 hd
  generalize lb (s 53) = gp at *
  generalize lb (s 55) = gq at *
  generalize lb (s 57) = gn at *
  obtain ⟨pp, cp9, hs11, hBp, hOp, hpl, hgl2⟩ := h9'
  obtain ⟨pq, cq9, hs12, hBq, hOq, hql, hgl3⟩ := h10'
  obtain ⟨pn, cn, hs13, hBn, hOn, hnl, hgl⟩ := h11'
  have hpq : pp ≠ pq := fun e => hpxy (by rw [hs11, hs12, e])
  have hnp : pn ≠ pp := fun e => hpxm (by rw [hs11, hs13, e])
  have hnq : pn ≠ pq := fun e => hpym (by rw [hs12, hs13, e])
  have hb : Below w2.heap.size w2 W := hT
  clear hpxy hpxm hpym hT
  simp [setAll, hs11, hs12, hs13]
  clear hs11 hs12 hs13
  generalize s 52 = s52
  generalize s 53 = s53
  generalize s 54 = s54
  generalize s 55 = s55
  generalize s 56 = s56
  generalize s 57 = s57
  have hy5 : w.heap.size + 1 + 1 + 1 < w2.heap.size := Hm2.out.lt
  have HNe := Lib.hid (show gp ≠ gn ∧ gq ≠ gn ∧ gp ≠ gq ∧ pp ≠ pq ∧ pn ≠ pp ∧ pn ≠ pq ∧ w.heap.size + 1 + 1 + 1 < pn ∧ w.heap.size + 1 + 1 + 1 < pp ∧ w.heap.size + 1 + 1 + 1 < pq ∧ w.heap.size + 1 + 1 + 1 < gn from by refine ⟨hgxm, hgym, hgxy, hpq, hnp, hnq, by omega, by omega, by omega, by omega⟩)
  clear hy5 hpq hnp hnq hgxy hgxm hgym hnl hgl hpl hgl2 hql hgl3
  generalize hW6 : W = w6 at *
  clear hW6
  have Hj3 := Lib.hid (Hj2.out.nxt hb)
  have Hx3 := Lib.hid (Hx2.out.nxt hb)
  have Hy3 := Lib.hid (Hy2.out.nxt hb)
  have Hm3 := Lib.hid (Hm2.out.nxt hb)
  have HB3 := Lib.hid (below_nx HB2.out hb)
  clear hb
  clear j0 j1 j2 x0 x1 x2 x3 x4 y0 y1 y2 y3 y4 m0 m1 m2 m3 m4
  obtain ⟨j0, j1, j2⟩ := cells3v Hj3.out
  obtain ⟨x0, x1, x2, x3, x4⟩ := cells5 Hx3.out
  obtain ⟨y0, y1, y2, y3, y4⟩ := cells5 Hy3.out
  obtain ⟨m0, m1, m2, m3, m4⟩ := cells5 Hm3.out
  clear Hj2 Hx2 Hy2 Hm2 HB2
  have Hn3 := Lib.hid hBn
  have Hp3 := Lib.hid hBp
  have Hq3 := Lib.hid hBq
  have Hu3 := Lib.hid hOn
  have Hv3 := Lib.hid hOp
  have Ht3 := Lib.hid hOq
  clear hBn hBp hBq hOn hOp hOq
  clear j0 j1 j2 x0 x1 x2 x3 x4 y0 y1 y2 y3 y4 m0 m1 m2 m3 m4
  clear HApm HApx HApy HGr
  obtain ⟨j0, j1, j2⟩ := cells3v Hj3.out
  obtain ⟨x0, x1, x2, x3, x4⟩ := cells5 Hx3.out
  obtain ⟨y0, y1, y2, y3, y4⟩ := cells5 Hy3.out
  obtain ⟨m0, m1, m2, m3, m4⟩ := cells5 Hm3.out
  obtain ⟨n0, n1, n2, n3, n4⟩ := cells5 Hn3.out
  obtain ⟨p0, p1, p2, p3, p4⟩ := cells5 Hp3.out
  obtain ⟨q0, q1, q2, q3, q4⟩ := cells5 Hq3.out
  go_upto_region 15 with fail
  have hba := below_one (W := w6) (o := (.cells #[.int .i64 (s1 : Int), .int .i64 (s2 : Int), .int .i64 (s3 : Int)] 31))
  have HZn := Lib.hid (Blk.new w6 31 #[.int .i64 (s1 : Int), .int .i64 (s2 : Int), .int .i64 (s3 : Int)])
  have Hj4 := Lib.hid (Hj3.out.nxt hba)
  have Hx4 := Lib.hid (Hx3.out.nxt hba)
  have Hy4 := Lib.hid (Hy3.out.nxt hba)
  have Hm4 := Lib.hid (Hm3.out.nxt hba)
  have Hn4 := Lib.hid (Hn3.out.nxt hba)
  have Hp4 := Lib.hid (Hp3.out.nxt hba)
  have Hq4 := Lib.hid (Hq3.out.nxt hba)
  have Hu4 := Lib.hid (Hu3.out.nxt hba)
  have Hv4 := Lib.hid (Hv3.out.nxt hba)
  have Ht4 := Lib.hid (Ht3.out.nxt hba)
  have HB4 := Lib.hid (below_nx HB3.out hba)
  clear hba
  clear j0 j1 j2 x0 x1 x2 x3 x4 y0 y1 y2 y3 y4 m0 m1 m2 m3 m4 n0 n1 n2 n3 n4 p0 p1 p2 p3 p4 q0 q1 q2 q3 q4
  obtain ⟨j0, j1, j2⟩ := cells3v Hj4.out
  obtain ⟨x0, x1, x2, x3, x4⟩ := cells5 Hx4.out
  obtain ⟨y0, y1, y2, y3, y4⟩ := cells5 Hy4.out
  obtain ⟨m0, m1, m2, m3, m4⟩ := cells5 Hm4.out
  obtain ⟨n0, n1, n2, n3, n4⟩ := cells5 Hn4.out
  obtain ⟨p0, p1, p2, p3, p4⟩ := cells5 Hp4.out
  obtain ⟨q0, q1, q2, q3, q4⟩ := cells5 Hq4.out
  clear Hj3 Hx3 Hy3 Hm3 Hn3 Hp3 Hq3 Hu3 Hv3 Ht3 HB3
  clear j0 j1 j2 x0 x1 x2 x3 x4 y0 y1 y2 y3 y4 m0 m1 m2 m3 m4 n0 n1 n2 n3 n4 p0 p1 p2 p3 p4 q0 q1 q2 q3 q4
  generalize hzs : w6.heap.size = zs at *
  generalize w6.alloc (.cells #[.int .i64 (s1 : Int), .int .i64 (s2 : Int), .int .i64 (s3 : Int)] 31) = wz at *
  clear hzs
  have Hz4 := HZn
  clear HZn
  obtain ⟨j0, j1, j2⟩ := cells3v Hj4.out
  obtain ⟨x0, x1, x2, x3, x4⟩ := cells5 Hx4.out
  obtain ⟨y0, y1, y2, y3, y4⟩ := cells5 Hy4.out
  obtain ⟨m0, m1, m2, m3, m4⟩ := cells5 Hm4.out
  obtain ⟨n0, n1, n2, n3, n4⟩ := cells5 Hn4.out
  obtain ⟨p0, p1, p2, p3, p4⟩ := cells5 Hp4.out
  obtain ⟨q0, q1, q2, q3, q4⟩ := cells5 Hq4.out
  obtain ⟨z0, z1, z2⟩ := cells3v Hz4.out
  go_wp2_with fail
  refine (HRr.out _).mono ?_
  rintro e wr ⟨rfl, hb⟩
  have Hj5 := Lib.hid (Hj4.out.nxt hb)
  have Hx5 := Lib.hid (Hx4.out.nxt hb)
  have Hy5 := Lib.hid (Hy4.out.nxt hb)
  have Hm5 := Lib.hid (Hm4.out.nxt hb)
  have Hn5 := Lib.hid (Hn4.out.nxt hb)
  have Hp5 := Lib.hid (Hp4.out.nxt hb)
  have Hq5 := Lib.hid (Hq4.out.nxt hb)
  have Hz5 := Lib.hid (Hz4.out.nxt hb)
  have Hu5 := Lib.hid (Hu4.out.nxt hb)
  have Hv5 := Lib.hid (Hv4.out.nxt hb)
  have Ht5 := Lib.hid (Ht4.out.nxt hb)
  have HB5 := Lib.hid (below_nx HB4.out hb)
  clear hb
  clear j0 j1 j2 x0 x1 x2 x3 x4 y0 y1 y2 y3 y4 m0 m1 m2 m3 m4 n0 n1 n2 n3 n4 p0 p1 p2 p3 p4 q0 q1 q2 q3 q4 z0 z1 z2
  obtain ⟨j0, j1, j2⟩ := cells3v Hj5.out
  obtain ⟨x0, x1, x2, x3, x4⟩ := cells5 Hx5.out
  obtain ⟨y0, y1, y2, y3, y4⟩ := cells5 Hy5.out
  obtain ⟨m0, m1, m2, m3, m4⟩ := cells5 Hm5.out
  obtain ⟨n0, n1, n2, n3, n4⟩ := cells5 Hn5.out
  obtain ⟨p0, p1, p2, p3, p4⟩ := cells5 Hp5.out
  obtain ⟨q0, q1, q2, q3, q4⟩ := cells5 Hq5.out
  obtain ⟨z0, z1, z2⟩ := cells3v Hz5.out
  clear Hj4 Hx4 Hy4 Hm4 Hn4 Hp4 Hq4 Hz4 Hu4 Hv4 Ht4 HB4
  clear j0 j1 j2 x0 x1 x2 x3 x4 y0 y1 y2 y3 y4 m0 m1 m2 m3 m4 n0 n1 n2 n3 n4 p0 p1 p2 p3 p4 q0 q1 q2 q3 q4 z0 z1 z2
  clear Hj5
  obtain ⟨x0, x1, x2, x3, x4⟩ := cells5 Hx5.out
  obtain ⟨y0, y1, y2, y3, y4⟩ := cells5 Hy5.out
  obtain ⟨m0, m1, m2, m3, m4⟩ := cells5 Hm5.out
  obtain ⟨n0, n1, n2, n3, n4⟩ := cells5 Hn5.out
  obtain ⟨p0, p1, p2, p3, p4⟩ := cells5 Hp5.out
  obtain ⟨q0, q1, q2, q3, q4⟩ := cells5 Hq5.out
  obtain ⟨z0, z1, z2⟩ := cells3v Hz5.out
  go_wp2_with fail
  refine (HPr.out _ gn cn gp cp9 gq cq9 HNe.out.1 HNe.out.2.1 Hu5.out Hv5.out Ht5.out).mono ?_
  rintro e w8 ⟨rfl, l1, ho1, hi1, hc⟩
  have Hx6 := Lib.hid (hc.blk (fun h => own_ne Hu5.out Hx5.out (by decide) (List.mem_singleton.1 h).symm) Hx5.out)
  have Hy6 := Lib.hid (hc.blk (fun h => own_ne Hu5.out Hy5.out (by decide) (List.mem_singleton.1 h).symm) Hy5.out)
  have Hm6 := Lib.hid (hc.blk (fun h => own_ne Hu5.out Hm5.out (by decide) (List.mem_singleton.1 h).symm) Hm5.out)
  have Hn6 := Lib.hid (hc.blk (fun h => own_ne Hu5.out Hn5.out (by decide) (List.mem_singleton.1 h).symm) Hn5.out)
  have Hp6 := Lib.hid (hc.blk (fun h => own_ne Hu5.out Hp5.out (by decide) (List.mem_singleton.1 h).symm) Hp5.out)
  have Hq6 := Lib.hid (hc.blk (fun h => own_ne Hu5.out Hq5.out (by decide) (List.mem_singleton.1 h).symm) Hq5.out)
  have Hz6 := Lib.hid (hc.blk (fun h => own_ne Hu5.out Hz5.out (by decide) (List.mem_singleton.1 h).symm) Hz5.out)
  have Hu6 := Lib.hid ho1
  have HI := Lib.hid hi1
  have Hv6 := Lib.hid (hc.own (fun h => HNe.out.1 (List.mem_singleton.1 h)) Hv5.out)
  have Ht6 := Lib.hid (hc.own (fun h => HNe.out.2.1 (List.mem_singleton.1 h)) Ht5.out)
  have HB6 := Lib.hid (hc.below HB5.out HB5.out.size (fun x hx => by have := HNe.out; simp at hx; omega))
  clear ho1 hi1 hc HPr
  clear Hx5 Hy5 Hm5 Hn5 Hp5 Hq5 Hz5 Hu5 Hv5 Ht5 HB5
  clear x0 x1 x2 x3 x4 y0 y1 y2 y3 y4 m0 m1 m2 m3 m4 n0 n1 n2 n3 n4 p0 p1 p2 p3 p4 q0 q1 q2 q3 q4 z0 z1 z2
  obtain ⟨x0, x1, x2, x3, x4⟩ := cells5 Hx6.out
  obtain ⟨y0, y1, y2, y3, y4⟩ := cells5 Hy6.out
  obtain ⟨m0, m1, m2, m3, m4⟩ := cells5 Hm6.out
  obtain ⟨n0, n1, n2, n3, n4⟩ := cells5 Hn6.out
  obtain ⟨p0, p1, p2, p3, p4⟩ := cells5 Hp6.out
  obtain ⟨q0, q1, q2, q3, q4⟩ := cells5 Hq6.out
  obtain ⟨z0, z1, z2⟩ := cells3v Hz6.out
  go_wp2_with fail
  refine (HCk.out _).mono ?_
  rintro e we0 ⟨rfl, hb⟩
  have Hx7 := Lib.hid (Hx6.out.nxt hb)
  have Hy7 := Lib.hid (Hy6.out.nxt hb)
  have Hm7 := Lib.hid (Hm6.out.nxt hb)
  have Hn7 := Lib.hid (Hn6.out.nxt hb)
  have Hp7 := Lib.hid (Hp6.out.nxt hb)
  have Hq7 := Lib.hid (Hq6.out.nxt hb)
  have Hz7 := Lib.hid (Hz6.out.nxt hb)
  have Hu7 := Lib.hid (Hu6.out.nxt hb)
  have Hv7 := Lib.hid (Hv6.out.nxt hb)
  have Ht7 := Lib.hid (Ht6.out.nxt hb)
  have HB7 := Lib.hid (below_nx HB6.out hb)
  clear hb
  clear x0 x1 x2 x3 x4 y0 y1 y2 y3 y4 m0 m1 m2 m3 m4 n0 n1 n2 n3 n4 p0 p1 p2 p3 p4 q0 q1 q2 q3 q4 z0 z1 z2
  obtain ⟨x0, x1, x2, x3, x4⟩ := cells5 Hx7.out
  obtain ⟨y0, y1, y2, y3, y4⟩ := cells5 Hy7.out
  obtain ⟨m0, m1, m2, m3, m4⟩ := cells5 Hm7.out
  obtain ⟨n0, n1, n2, n3, n4⟩ := cells5 Hn7.out
  obtain ⟨p0, p1, p2, p3, p4⟩ := cells5 Hp7.out
  obtain ⟨q0, q1, q2, q3, q4⟩ := cells5 Hq7.out
  obtain ⟨z0, z1, z2⟩ := cells3v Hz7.out
  clear Hx6 Hy6 Hm6 Hn6 Hp6 Hq6 Hz6 Hu6 Hv6 Ht6 HB6
  go_wp2_with fail
  refine (HRb.out _).mono ?_
  rintro e we1 ⟨rfl, hb⟩
  have Hx8 := Lib.hid (Hx7.out.nxt hb)
  have Hy8 := Lib.hid (Hy7.out.nxt hb)
  have Hm8 := Lib.hid (Hm7.out.nxt hb)
  have Hn8 := Lib.hid (Hn7.out.nxt hb)
  have Hp8 := Lib.hid (Hp7.out.nxt hb)
  have Hq8 := Lib.hid (Hq7.out.nxt hb)
  have Hz8 := Lib.hid (Hz7.out.nxt hb)
  have Hu8 := Lib.hid (Hu7.out.nxt hb)
  have Hv8 := Lib.hid (Hv7.out.nxt hb)
  have Ht8 := Lib.hid (Ht7.out.nxt hb)
  have HB8 := Lib.hid (below_nx HB7.out hb)
  clear hb
  clear x0 x1 x2 x3 x4 y0 y1 y2 y3 y4 m0 m1 m2 m3 m4 n0 n1 n2 n3 n4 p0 p1 p2 p3 p4 q0 q1 q2 q3 q4 z0 z1 z2
  obtain ⟨x0, x1, x2, x3, x4⟩ := cells5 Hx8.out
  obtain ⟨y0, y1, y2, y3, y4⟩ := cells5 Hy8.out
  obtain ⟨m0, m1, m2, m3, m4⟩ := cells5 Hm8.out
  obtain ⟨n0, n1, n2, n3, n4⟩ := cells5 Hn8.out
  obtain ⟨p0, p1, p2, p3, p4⟩ := cells5 Hp8.out
  obtain ⟨q0, q1, q2, q3, q4⟩ := cells5 Hq8.out
  obtain ⟨z0, z1, z2⟩ := cells3v Hz8.out
  clear Hx7 Hy7 Hm7 Hn7 Hp7 Hq7 Hz7 Hu7 Hv7 Ht7 HB7
  go_wp2_with fail
  refine wp_region_inv [154, 155, 156, 157, 158, 159, 160, 161, 162, 163, 164, 22] (fun d s W => (d 0 = true → s 154 = .agg #[.slice Am nm cm, .int .i64 (o : Int), .int .i64 (R : Int), .int .i64 (C : Int), .int .i64 (L : Int)]) ∧ (d 1 = true → s 155 = .float .f64 a) ∧ (d 2 = true → s 156 = .agg #[.slice Ax nx cx, .int .i64 (ox : Int), .int .i64 (R : Int), .int .i64 (K : Int), .int .i64 (Lx : Int)]) ∧ (d 3 = true → TbG W (s 157) (Tab lx ox R K Lx NX) R K NX) ∧ (d 4 = true → s 158 = .agg #[.slice Ay ny cy, .int .i64 (oy : Int), .int .i64 (K : Int), .int .i64 (C : Int), .int .i64 (Ly : Int)]) ∧ (d 5 = true → TbG W (s 159) (Tab ly oy K C Ly NY) K C NY) ∧ (d 6 = true → s 160 = .float .f64 b) ∧ (d 7 = true → s 161 = .agg #[.slice Am nm cm, .int .i64 (o : Int), .int .i64 (R : Int), .int .i64 (C : Int), .int .i64 (L : Int)]) ∧ (d 8 = true → TbG W (s 162) (Tab lm o R C L N) R C N) ∧ (d 9 = true → TbG W (s 163) (GeS a b lm o L lx ox Lx ly oy Ly R K C N) R C N) ∧ (d 10 = true → SlG W (s 164) (fun l2 => ∃ T, GeS a b lm o L lx ox Lx ly oy Ly R K C N T ∧ Img lm o R C L (fun i j => T.getD (i * C + j) 0) l2) nm) ∧ (d 11 = true → SlG W (s 22) (fun l2 => ∃ T, GeS a b lm o L lx ox Lx ly oy Ly R K C N T ∧ Img lm o R C L (fun i j => T.getD (i * C + j) 0) l2) nm) ∧ Below we1.heap.size we1 W)
    rfl (by kernel_rfl) ?_ ?_ ?_
  · exact ⟨by simp, by simp, by simp, by simp, by simp, by simp, by simp, by simp, by simp, by simp, by simp, by simp, (Below.refl _ _).drew⟩
  · refine ⟨?_, ?_, ?_, ?_, ?_, ?_, ?_, ?_, ?_, ?_, ?_, ?_, trivial⟩
    all_goals
      intro d s W hJ hfr hd hdep
      simp only [List.mem_cons, forall_eq_or_imp, List.not_mem_nil, false_implies, implies_true, and_true, Region.binds] at hdep
      have f1 := hfr 1 (by decide)
      have f4 := hfr 4 (by decide)
      have f9 := hfr 9 (by decide)
      have f10 := hfr 10 (by decide)
      have f12 := hfr 12 (by decide)
      simp at f1 f4 f9 f10 f12 hdep
      obtain ⟨h0, h1, h2, h3, h4, h5, h6, h7, h8, h9, h10, h11, hT⟩ := hJ
    · as_aux_lemma =>
        unfold OpSteps
        obtain ⟨p0, p1, p2, p3, p4⟩ := cells5 (Hm8.out.below hT Hm8.out.lt)
        simp [go_sem, evS, f12, p0, p1, p2, p3, p4]
        exact ⟨fun _ => by simp [sput], kpw h1, kpw h2, fun h => by simpa [sput] using h3 (by simpa [did] using h), kpw h4, fun h => by simpa [sput] using h5 (by simpa [did] using h), kpw h6, kpw h7, fun h => by simpa [sput] using h8 (by simpa [did] using h), fun h => by simpa [sput] using h9 (by simpa [did] using h), fun h => by simpa [sput] using h10 (by simpa [did] using h), fun h => by simpa [sput] using h11 (by simpa [did] using h), hT⟩
    · as_aux_lemma =>
        unfold OpSteps
        simp [go_sem, evS, f1]
        exact ⟨kpw h0, fun _ => by simp [sput], kpw h2, fun h => by simpa [sput] using h3 (by simpa [did] using h), kpw h4, fun h => by simpa [sput] using h5 (by simpa [did] using h), kpw h6, kpw h7, fun h => by simpa [sput] using h8 (by simpa [did] using h), fun h => by simpa [sput] using h9 (by simpa [did] using h), fun h => by simpa [sput] using h10 (by simpa [did] using h), fun h => by simpa [sput] using h11 (by simpa [did] using h), hT⟩
    · as_aux_lemma =>
        unfold OpSteps
        obtain ⟨p0, p1, p2, p3, p4⟩ := cells5 (Hx8.out.below hT Hx8.out.lt)
        simp [go_sem, evS, f9, p0, p1, p2, p3, p4]
        exact ⟨kpw h0, kpw h1, fun _ => by simp [sput], fun h => by simpa [sput] using h3 (by simpa [did] using h), kpw h4, fun h => by simpa [sput] using h5 (by simpa [did] using h), kpw h6, kpw h7, fun h => by simpa [sput] using h8 (by simpa [did] using h), fun h => by simpa [sput] using h9 (by simpa [did] using h), fun h => by simpa [sput] using h10 (by simpa [did] using h), fun h => by simpa [sput] using h11 (by simpa [did] using h), hT⟩
    · as_aux_lemma =>
        have g2 := h2 (by simp [hdep])
        unfold OpSteps
        simp [go_sem, evS, g2]
        refine (HOfx.out W (below_nx HB8.out hT)).mono ?_
        rintro e W' ⟨q9, T9, rfl, hS9, hr9, hb⟩
        refine ⟨_, rfl, ?_⟩
        exact ⟨kpw h0, kpw h1, kpw h2, fun _ => ⟨q9, NX, T9, by simp [sput], hS9, hr9⟩, kpw h4, fun h => by simpa [sput] using (h5 (by simpa [did] using h)).below hb, kpw h6, kpw h7, fun h => by simpa [sput] using (h8 (by simpa [did] using h)).below hb, fun h => by simpa [sput] using (h9 (by simpa [did] using h)).below hb, fun h => by simpa [sput] using (h10 (by simpa [did] using h)).below hb, fun h => by simpa [sput] using (h11 (by simpa [did] using h)).below hb, below_nx hT hb⟩
    · as_aux_lemma =>
        unfold OpSteps
        obtain ⟨p0, p1, p2, p3, p4⟩ := cells5 (Hy8.out.below hT Hy8.out.lt)
        simp [go_sem, evS, f10, p0, p1, p2, p3, p4]
        exact ⟨kpw h0, kpw h1, kpw h2, fun h => by simpa [sput] using h3 (by simpa [did] using h), fun _ => by simp [sput], fun h => by simpa [sput] using h5 (by simpa [did] using h), kpw h6, kpw h7, fun h => by simpa [sput] using h8 (by simpa [did] using h), fun h => by simpa [sput] using h9 (by simpa [did] using h), fun h => by simpa [sput] using h10 (by simpa [did] using h), fun h => by simpa [sput] using h11 (by simpa [did] using h), hT⟩
    · as_aux_lemma =>
        have g4 := h4 (by simp [hdep])
        unfold OpSteps
        simp [go_sem, evS, g4]
        refine (HOfy.out W (below_nx HB8.out hT)).mono ?_
        rintro e W' ⟨q9, T9, rfl, hS9, hr9, hb⟩
        refine ⟨_, rfl, ?_⟩
        exact ⟨kpw h0, kpw h1, kpw h2, fun h => by simpa [sput] using (h3 (by simpa [did] using h)).below hb, kpw h4, fun _ => ⟨q9, NY, T9, by simp [sput], hS9, hr9⟩, kpw h6, kpw h7, fun h => by simpa [sput] using (h8 (by simpa [did] using h)).below hb, fun h => by simpa [sput] using (h9 (by simpa [did] using h)).below hb, fun h => by simpa [sput] using (h10 (by simpa [did] using h)).below hb, fun h => by simpa [sput] using (h11 (by simpa [did] using h)).below hb, below_nx hT hb⟩
    · as_aux_lemma =>
        unfold OpSteps
        simp [go_sem, evS, f4]
        exact ⟨kpw h0, kpw h1, kpw h2, fun h => by simpa [sput] using h3 (by simpa [did] using h), kpw h4, fun h => by simpa [sput] using h5 (by simpa [did] using h), fun _ => by simp [sput], kpw h7, fun h => by simpa [sput] using h8 (by simpa [did] using h), fun h => by simpa [sput] using h9 (by simpa [did] using h), fun h => by simpa [sput] using h10 (by simpa [did] using h), fun h => by simpa [sput] using h11 (by simpa [did] using h), hT⟩
    · as_aux_lemma =>
        unfold OpSteps
        obtain ⟨p0, p1, p2, p3, p4⟩ := cells5 (Hm8.out.below hT Hm8.out.lt)
        simp [go_sem, evS, f12, p0, p1, p2, p3, p4]
        exact ⟨kpw h0, kpw h1, kpw h2, fun h => by simpa [sput] using h3 (by simpa [did] using h), kpw h4, fun h => by simpa [sput] using h5 (by simpa [did] using h), kpw h6, fun _ => by simp [sput], fun h => by simpa [sput] using h8 (by simpa [did] using h), fun h => by simpa [sput] using h9 (by simpa [did] using h), fun h => by simpa [sput] using h10 (by simpa [did] using h), fun h => by simpa [sput] using h11 (by simpa [did] using h), hT⟩
    · as_aux_lemma =>
        have g7 := h7 (by simp [hdep])
        unfold OpSteps
        simp [go_sem, evS, g7]
        refine (HOfm.out W (below_nx HB8.out hT)).mono ?_
        rintro e W' ⟨q9, T9, rfl, hS9, hr9, hb⟩
        refine ⟨_, rfl, ?_⟩
        exact ⟨kpw h0, kpw h1, kpw h2, fun h => by simpa [sput] using (h3 (by simpa [did] using h)).below hb, kpw h4, fun h => by simpa [sput] using (h5 (by simpa [did] using h)).below hb, kpw h6, kpw h7, fun _ => ⟨q9, N, T9, by simp [sput], hS9, hr9⟩, fun h => by simpa [sput] using (h9 (by simpa [did] using h)).below hb, fun h => by simpa [sput] using (h10 (by simpa [did] using h)).below hb, fun h => by simpa [sput] using (h11 (by simpa [did] using h)).below hb, below_nx hT hb⟩
    · as_aux_lemma =>
        have g1 := h1 (by simp [hdep])
        have g3 := h3 (by simp [hdep])
        have g5 := h5 (by simp [hdep])
        have g6 := h6 (by simp [hdep])
        have g8 := h8 (by simp [hdep])
        unfold OpSteps
        obtain ⟨q1, c1, T1, gv3, gS3, gR3⟩ := g3
        obtain ⟨q2, c2, T2, gv5, gS5, gR5⟩ := g5
        obtain ⟨q3, c3, T3, gv8, gS8, gR8⟩ := g8
        simp [go_sem, evS, g1, g6, gv3, gv5, gv8]
        refine (HRg.out q1 c1 q2 c2 q3 c3 T1 T2 T3 W gS3 gS5 gS8 gR3 gR5 gR8).mono ?_
        rintro e W' ⟨q9, c9, T9, rfl, hS9, hr9, hb⟩
        refine ⟨_, rfl, ?_⟩
        exact ⟨kpw h0, kpw h1, kpw h2, fun h => by simpa [sput] using (h3 (by simpa [did] using h)).below hb, kpw h4, fun h => by simpa [sput] using (h5 (by simpa [did] using h)).below hb, kpw h6, kpw h7, fun h => by simpa [sput] using (h8 (by simpa [did] using h)).below hb, fun _ => ⟨q9, c9, T9, by simp [sput], hS9, hr9⟩, fun h => by simpa [sput] using (h10 (by simpa [did] using h)).below hb, fun h => by simpa [sput] using (h11 (by simpa [did] using h)).below hb, below_nx hT hb⟩
    · as_aux_lemma =>
        have g0 := h0 (by simp [hdep])
        have g9 := h9 (by simp [hdep])
        unfold OpSteps
        obtain ⟨q8, c8, T8, gv9, gS9, gR9⟩ := g9
        simp [go_sem, evS, g0, gv9]
        refine (HIn.out q8 c8 T8 W (below_nx HB8.out hT) gS9 gR9).mono ?_
        rintro e W' ⟨B9, d9, X9, rfl, hS9, hr9, hb⟩
        refine ⟨_, rfl, ?_⟩
        exact ⟨kpw h0, kpw h1, kpw h2, fun h => by simpa [sput] using (h3 (by simpa [did] using h)).below hb, kpw h4, fun h => by simpa [sput] using (h5 (by simpa [did] using h)).below hb, kpw h6, kpw h7, fun h => by simpa [sput] using (h8 (by simpa [did] using h)).below hb, fun h => by simpa [sput] using (h9 (by simpa [did] using h)).below hb, fun _ => ⟨B9, d9, X9, by simp [sput], hS9, hr9⟩, fun h => by simpa [sput] using (h11 (by simpa [did] using h)).below hb, below_nx hT hb⟩
    · as_aux_lemma =>
        have g10 := h10 (by simp [hdep])
        unfold OpSteps
        obtain ⟨B8, b8, Y8, gv10, gS10, gR10⟩ := g10
        simp [go_sem, evS, gv10]
        exact ⟨kpw h0, kpw h1, kpw h2, fun h => by simpa [sput] using h3 (by simpa [did] using h), kpw h4, fun h => by simpa [sput] using h5 (by simpa [did] using h), kpw h6, kpw h7, fun h => by simpa [sput] using h8 (by simpa [did] using h), fun h => by simpa [sput] using h9 (by simpa [did] using h), fun h => by simpa [sput] using h10 (by simpa [did] using h), fun _ => ⟨B8, b8, Y8, by simp [sput], gS10, gR10⟩, hT⟩
  intro d s W hJ hd
  obtain ⟨h0, h1, h2, h3, h4, h5, h6, h7, h8, h9, h10, h11, hT⟩ := hJ
  obtain ⟨B9, d9, l9, hs22, hI9, hR9⟩ := h11 (hd 11 (by decide))
  have hb : Below we1.heap.size we1 W := hT
  have HI9 := Lib.hid hI9
  clear h0 h1 h2 h3 h4 h5 h6 h7 h8 h9 h10 h11 hT hd hI9
  simp [setAll, hs22]
  clear hs22
  generalize s 154 = s154
  generalize s 155 = s155
  generalize s 156 = s156
  generalize s 157 = s157
  generalize s 158 = s158
  generalize s 159 = s159
  generalize s 160 = s160
  generalize s 161 = s161
  generalize s 162 = s162
  generalize s 163 = s163
  generalize s 164 = s164
  generalize W = wg at *
  have Hx9 := Lib.hid (Hx8.out.nxt hb)
  have Hy9 := Lib.hid (Hy8.out.nxt hb)
  have Hm9 := Lib.hid (Hm8.out.nxt hb)
  have Hn9 := Lib.hid (Hn8.out.nxt hb)
  have Hp9 := Lib.hid (Hp8.out.nxt hb)
  have Hq9 := Lib.hid (Hq8.out.nxt hb)
  have Hz9 := Lib.hid (Hz8.out.nxt hb)
  have Hu9 := Lib.hid (Hu8.out.nxt hb)
  have Hv9 := Lib.hid (Hv8.out.nxt hb)
  have Ht9 := Lib.hid (Ht8.out.nxt hb)
  have HB9 := Lib.hid (below_nx HB8.out hb)
  clear hb
  clear x0 x1 x2 x3 x4 y0 y1 y2 y3 y4 m0 m1 m2 m3 m4 n0 n1 n2 n3 n4 p0 p1 p2 p3 p4 q0 q1 q2 q3 q4 z0 z1 z2
  obtain ⟨x0, x1, x2, x3, x4⟩ := cells5 Hx9.out
  obtain ⟨y0, y1, y2, y3, y4⟩ := cells5 Hy9.out
  obtain ⟨m0, m1, m2, m3, m4⟩ := cells5 Hm9.out
  obtain ⟨n0, n1, n2, n3, n4⟩ := cells5 Hn9.out
  obtain ⟨p0, p1, p2, p3, p4⟩ := cells5 Hp9.out
  obtain ⟨q0, q1, q2, q3, q4⟩ := cells5 Hq9.out
  obtain ⟨z0, z1, z2⟩ := cells3v Hz9.out
  clear Hx8 Hy8 Hm8 Hn8 Hp8 Hq8 Hz8 Hu8 Hv8 Ht8 HB8
  have Hr9 := Lib.hid hR9
  clear hR9
  go_wp2_with fail
  refine (HFin.out _ _ _ _ _ _ _ HI.out HI9.out Hu9.out.row Hr9.out).mono ?_
  rintro e wh ⟨rfl, hb⟩
  have Hx10 := Lib.hid (Hx9.out.nxt hb)
  have Hy10 := Lib.hid (Hy9.out.nxt hb)
  have Hm10 := Lib.hid (Hm9.out.nxt hb)
  have Hn10 := Lib.hid (Hn9.out.nxt hb)
  have Hp10 := Lib.hid (Hp9.out.nxt hb)
  have Hq10 := Lib.hid (Hq9.out.nxt hb)
  have Hz10 := Lib.hid (Hz9.out.nxt hb)
  have Hu10 := Lib.hid (Hu9.out.nxt hb)
  have Hv10 := Lib.hid (Hv9.out.nxt hb)
  have Ht10 := Lib.hid (Ht9.out.nxt hb)
  have Hr10 := Lib.hid (Hr9.out.below hb)
  have HB10 := Lib.hid (below_nx HB9.out hb)
  clear hb
  clear x0 x1 x2 x3 x4 y0 y1 y2 y3 y4 m0 m1 m2 m3 m4 n0 n1 n2 n3 n4 p0 p1 p2 p3 p4 q0 q1 q2 q3 q4 z0 z1 z2
  obtain ⟨x0, x1, x2, x3, x4⟩ := cells5 Hx10.out
  obtain ⟨y0, y1, y2, y3, y4⟩ := cells5 Hy10.out
  obtain ⟨m0, m1, m2, m3, m4⟩ := cells5 Hm10.out
  obtain ⟨n0, n1, n2, n3, n4⟩ := cells5 Hn10.out
  obtain ⟨p0, p1, p2, p3, p4⟩ := cells5 Hp10.out
  obtain ⟨q0, q1, q2, q3, q4⟩ := cells5 Hq10.out
  obtain ⟨z0, z1, z2⟩ := cells3v Hz10.out
  clear Hx9 Hy9 Hm9 Hn9 Hp9 Hq9 Hz9 Hu9 Hv9 Ht9 Hr9 HB9
  go_wp2_with fail
  refine (HAllx.out _ _ _ _ _ Hv10.out.row (HAx.out.below HB10.out)).mono ?_
  rintro e wi ⟨rfl, hb⟩
  have Hx11 := Lib.hid (Hx10.out.nxt hb)
  have Hy11 := Lib.hid (Hy10.out.nxt hb)
  have Hm11 := Lib.hid (Hm10.out.nxt hb)
  have Hn11 := Lib.hid (Hn10.out.nxt hb)
  have Hp11 := Lib.hid (Hp10.out.nxt hb)
  have Hq11 := Lib.hid (Hq10.out.nxt hb)
  have Hz11 := Lib.hid (Hz10.out.nxt hb)
  have Hu11 := Lib.hid (Hu10.out.nxt hb)
  have Hv11 := Lib.hid (Hv10.out.nxt hb)
  have Ht11 := Lib.hid (Ht10.out.nxt hb)
  have Hr11 := Lib.hid (Hr10.out.below hb)
  have HB11 := Lib.hid (below_nx HB10.out hb)
  clear hb
  clear x0 x1 x2 x3 x4 y0 y1 y2 y3 y4 m0 m1 m2 m3 m4 n0 n1 n2 n3 n4 p0 p1 p2 p3 p4 q0 q1 q2 q3 q4 z0 z1 z2
  obtain ⟨x0, x1, x2, x3, x4⟩ := cells5 Hx11.out
  obtain ⟨y0, y1, y2, y3, y4⟩ := cells5 Hy11.out
  obtain ⟨m0, m1, m2, m3, m4⟩ := cells5 Hm11.out
  obtain ⟨n0, n1, n2, n3, n4⟩ := cells5 Hn11.out
  obtain ⟨p0, p1, p2, p3, p4⟩ := cells5 Hp11.out
  obtain ⟨q0, q1, q2, q3, q4⟩ := cells5 Hq11.out
  obtain ⟨z0, z1, z2⟩ := cells3v Hz11.out
  clear Hx10 Hy10 Hm10 Hn10 Hp10 Hq10 Hz10 Hu10 Hv10 Ht10 Hr10 HB10
  go_wp2_with fail
  refine (HAlly.out _ _ _ _ _ Ht11.out.row (HAy.out.below HB11.out)).mono ?_
  rintro e wj ⟨rfl, hb⟩
  have Hx12 := Lib.hid (Hx11.out.nxt hb)
  have Hy12 := Lib.hid (Hy11.out.nxt hb)
  have Hm12 := Lib.hid (Hm11.out.nxt hb)
  have Hn12 := Lib.hid (Hn11.out.nxt hb)
  have Hp12 := Lib.hid (Hp11.out.nxt hb)
  have Hq12 := Lib.hid (Hq11.out.nxt hb)
  have Hz12 := Lib.hid (Hz11.out.nxt hb)
  have Hu12 := Lib.hid (Hu11.out.nxt hb)
  have Hv12 := Lib.hid (Hv11.out.nxt hb)
  have Ht12 := Lib.hid (Ht11.out.nxt hb)
  have Hr12 := Lib.hid (Hr11.out.below hb)
  have HB12 := Lib.hid (below_nx HB11.out hb)
  clear hb
  clear x0 x1 x2 x3 x4 y0 y1 y2 y3 y4 m0 m1 m2 m3 m4 n0 n1 n2 n3 n4 p0 p1 p2 p3 p4 q0 q1 q2 q3 q4 z0 z1 z2
  obtain ⟨x0, x1, x2, x3, x4⟩ := cells5 Hx12.out
  obtain ⟨y0, y1, y2, y3, y4⟩ := cells5 Hy12.out
  obtain ⟨m0, m1, m2, m3, m4⟩ := cells5 Hm12.out
  obtain ⟨n0, n1, n2, n3, n4⟩ := cells5 Hn12.out
  obtain ⟨p0, p1, p2, p3, p4⟩ := cells5 Hp12.out
  obtain ⟨q0, q1, q2, q3, q4⟩ := cells5 Hq12.out
  obtain ⟨z0, z1, z2⟩ := cells3v Hz12.out
  clear Hx11 Hy11 Hm11 Hn11 Hp11 Hq11 Hz11 Hu11 Hv11 Ht11 Hr11 HB11
  go_wp2_with fail
  refine (awake13_any _).mono ?_
  rintro e wk ⟨rfl, hb⟩
  have Hx13 := Lib.hid (Hx12.out.nxt hb)
  have Hy13 := Lib.hid (Hy12.out.nxt hb)
  have Hm13 := Lib.hid (Hm12.out.nxt hb)
  have Hn13 := Lib.hid (Hn12.out.nxt hb)
  have Hp13 := Lib.hid (Hp12.out.nxt hb)
  have Hq13 := Lib.hid (Hq12.out.nxt hb)
  have Hz13 := Lib.hid (Hz12.out.nxt hb)
  have Hu13 := Lib.hid (Hu12.out.nxt hb)
  have Hv13 := Lib.hid (Hv12.out.nxt hb)
  have Ht13 := Lib.hid (Ht12.out.nxt hb)
  have Hr13 := Lib.hid (Hr12.out.below hb)
  have HB13 := Lib.hid (below_nx HB12.out hb)
  clear hb
  clear x0 x1 x2 x3 x4 y0 y1 y2 y3 y4 m0 m1 m2 m3 m4 n0 n1 n2 n3 n4 p0 p1 p2 p3 p4 q0 q1 q2 q3 q4 z0 z1 z2
  obtain ⟨x0, x1, x2, x3, x4⟩ := cells5 Hx13.out
  obtain ⟨y0, y1, y2, y3, y4⟩ := cells5 Hy13.out
  obtain ⟨m0, m1, m2, m3, m4⟩ := cells5 Hm13.out
  obtain ⟨n0, n1, n2, n3, n4⟩ := cells5 Hn13.out
  obtain ⟨p0, p1, p2, p3, p4⟩ := cells5 Hp13.out
  obtain ⟨q0, q1, q2, q3, q4⟩ := cells5 Hq13.out
  obtain ⟨z0, z1, z2⟩ := cells3v Hz13.out
  clear Hx12 Hy12 Hm12 Hn12 Hp12 Hq12 Hz12 Hu12 Hv12 Ht12 Hr12 HB12
  go_wp2_with fail
  go_ret
  exact ⟨rfl, HB13.out⟩

end Go.Proofs.Ytbeefnekblepfaa
