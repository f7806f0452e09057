/-
BlockAlike's walks. Conditions: as each says.
-/
import Derived.Test.YtbeefnekblepfaaUbac
import Derived.Test.YtbeefnekblepfaaZBkH
import Derived.Test.YtbeefnekblepfaaUbad
import Derived.Test.YtbeefnekblepfaaZBkV
set_option linter.unusedVariables false
set_option linter.unusedSimpArgs false
set_option linter.unnecessarySimpa false
namespace Go.Proofs.Ytbeefnekblepfaa
open Go.RowKit
attribute [local go_sem ↓] Go.wp_at_zero Go.wp_at_succ

/-- A size out of a byte. -/
theorem u8_size {y : Nat} (h : y < 256) : ∃ n : Nat, (1 ≤ n ∧ n ≤ 256) ∧ Hid (1 + ((y : Nat) : Int) = (n : Int) ∧ wrap64 (n : Int) = (n : Int) ∧ IntKind.i64.wrap (n : Int) = (n : Int) ∧ wrap64 (y : Int) = (y : Int) ∧ IntKind.i64.wrap (y : Int) = (y : Int)) :=
  ⟨1 + y, by omega, Lib.hid ⟨by omega, by unfold wrap64; omega, wrapi (by omega) (by omega), by unfold wrap64; omega, wrapi (by omega) (by omega)⟩⟩

set_option maxRecDepth 100000 in
set_option maxHeartbeats 4000000 in
theorem blockAlike_err (y0 y1 y2 t0 t1 t2 : Nat) (a b : Nat) (Ax : Option Addr) (nx cx : Nat) (lx : List Nat) (xo xr xk xl : Int) (Ay : Option Addr) (ny cy : Nat) (ly : List Nat) (yo yr yk yl : Int) (Am : Option Addr) (nm cm : Nat) (lm : List Nat) (mo mr mk ml : Int) (E : Int) (w : World) (hy0 : y0 < 256) (hy1 : y1 < 256) (hy2 : y2 < 256) (ht0 : t0 < 256) (ht1 : t1 < 256) (ht2 : t2 < 256) (hFx : ∀ W g, Below w.heap.size w W → w.heap.size ≤ g → FarM W Ax lx g) (hFy : ∀ W g, Below w.heap.size w W → w.heap.size ≤ g → FarM W Ay ly g) (hAm : Row w Am (f64s lm)) (hWx : Wds lx) (hWy : Wds ly) (hWm : Wds lm) (hlx : lx.length = nx) (hly : ly.length = ny) (hlm : lm.length = nm) (hnx : nx ≤ 1000) (hny : ny ≤ 1000) (hnm : nm ≤ 1000) (hG : (greatB nx xr xk || greatB ny yr yk || greatB nm mr mk) = false) (hxo : I64 xo) (hxr : I64 xr) (hxk : I64 xk) (hxl : I64 xl) (hyo : I64 yo) (hyr : I64 yr) (hyk : I64 yk) (hyl : I64 yl) (hmo : I64 mo) (hmr : I64 mr) (hmk : I64 mk) (hml : I64 ml) (hE0 : E ≠ 0) (hE : E = if (matB nx xo xr xk xl && matB ny yo yr yk yl && matB nm mo mr mk ml) = false then 1 else 3) (hq : (matB nx xo xr xk xl && matB ny yo yr yk yl && matB nm mo mr mk ml) = true → ((xk != yr) || (mr != xr) || (mk != yk)) = true) :
    Calls Try.prog 4 #[.agg #[.int .u8 (y0 : Int), .int .u8 (y1 : Int), .int .u8 (y2 : Int)], .agg #[.int .u8 (t0 : Int), .int .u8 (t1 : Int), .int .u8 (t2 : Int)], .float .f64 a, mat Ax nx cx xo xr xk xl, mat Ay ny cy yo yr yk yl, .float .f64 b, mat Am nm cm mo mr mk ml] w fun e w' => e = .returned (.bool true) ∧ Below w.heap.size w w' := by
  have HGr := Lib.hid (fun W => bgreat_any Ax nx cx xo xr xk xl Ay ny cy yo yr yk yl Am nm cm mo mr mk ml W)
  rw [hG] at HGr
  have HApm := Lib.hid (apart_c Am nm cm lm mo mr mk ml w hAm hlm (by omega))
  have HPr := Lib.hid (fun (n1 n2 n3 : Nat) (h1 : 1 ≤ n1 ∧ n1 ≤ 256) (h2 : 1 ≤ n2 ∧ n2 ≤ 256) (h3 : 1 ≤ n3 ∧ n3 ≤ 256) W (g cg : Nat) (hb : Below w.heap.size w W) (hg : w.heap.size ≤ g) (hO : Own W g lm) => show Calls Try.prog 9 #[.agg #[.int .i64 (n1 : Int), .int .i64 (n2 : Int), .int .i64 (n3 : Int)], .float .f64 a, mat Ax nx cx xo xr xk xl, mat Ay ny cy yo yr yk yl, .float .f64 b, mat (some ⟨g, 0, none⟩) nm cg mo mr mk ml] W fun e w' => e = .returned (.int .i64 E) ∧ Below W.heap.size W w' from
    bkmul_twoerr n1 n2 n3 a b Ax cx nx lx xo xr xk xl Ay cy ny ly yo yr yk yl g cg nm lm mo mr mk ml E W hE0 (hFx W g hb hg) hlx (hFy W g hb hg) hly hO hlm hnx hny hnm hxo hxr hxk hxl hyo hyr hyk hyl hmo hmr hmk hml (by
      rw [show sizB (n1 : Int) (n2 : Int) (n3 : Int) = true by unfold sizB; simp; omega, Bool.true_and, hE]
      cases h : (matB nx xo xr xk xl && matB ny yo yr yk yl && matB nm mo mr mk ml)
      · rfl
      · rw [hq h]; rfl))
  have HAll := Lib.hid (all_c lm nm hWm hlm (by omega))
  have t0' : (E == E) = true := by simp
  obtain ⟨n0, bn0, Wn0⟩ := u8_size hy0
  obtain ⟨n1, bn1, Wn1⟩ := u8_size hy1
  obtain ⟨n2, bn2, Wn2⟩ := u8_size hy2
  obtain ⟨n3, bn3, Wn3⟩ := u8_size ht0
  obtain ⟨n4, bn4, Wn4⟩ := u8_size ht1
  obtain ⟨n5, bn5, Wn5⟩ := u8_size ht2
  have HbN := Lib.hid (And.intro bn0 (And.intro bn1 (And.intro bn2 (And.intro bn3 (And.intro bn4 bn5)))))
  clear hFx hFy hAm hWx hWy hWm hlx hly hlm hnx hny hnm hG bn0 bn1 bn2 bn3 bn4 bn5 hy0 hy1 hy2 ht0 ht1 ht2 hE0 hE hq hxo hxr hxk hxl hyo hyr hyk hyl hmo hmr hmk hml
  unfold mat at *
  go_enter Try.func4, Try.ntmps4
  have Hi0 := Lib.hid (((((Blk.new w 43 #[.int .u8 (y0 : Int), .int .u8 (y1 : Int), .int .u8 (y2 : Int)]).alloc (.cells #[.int .u8 (t0 : Int), .int .u8 (t1 : Int), .int .u8 (t2 : Int)] 43)).alloc (.cells #[.slice Ax nx cx, .int .i64 xo, .int .i64 xr, .int .i64 xk, .int .i64 xl] 26)).alloc (.cells #[.slice Ay ny cy, .int .i64 yo, .int .i64 yr, .int .i64 yk, .int .i64 yl] 26)).alloc (.cells #[.slice Am nm cm, .int .i64 mo, .int .i64 mr, .int .i64 mk, .int .i64 ml] 26))
  have Hj0 := Lib.hid ((((Blk.new_ (w.alloc (.cells #[.int .u8 (y0 : Int), .int .u8 (y1 : Int), .int .u8 (y2 : Int)] 43)) 43 #[.int .u8 (t0 : Int), .int .u8 (t1 : Int), .int .u8 (t2 : Int)] (w.heap.size + 1) (by simp)).alloc (.cells #[.slice Ax nx cx, .int .i64 xo, .int .i64 xr, .int .i64 xk, .int .i64 xl] 26)).alloc (.cells #[.slice Ay ny cy, .int .i64 yo, .int .i64 yr, .int .i64 yk, .int .i64 yl] 26)).alloc (.cells #[.slice Am nm cm, .int .i64 mo, .int .i64 mr, .int .i64 mk, .int .i64 ml] 26))
  have Hx0 := Lib.hid (((Blk.new_ ((w.alloc (.cells #[.int .u8 (y0 : Int), .int .u8 (y1 : Int), .int .u8 (y2 : Int)] 43)).alloc (.cells #[.int .u8 (t0 : Int), .int .u8 (t1 : Int), .int .u8 (t2 : Int)] 43)) 26 #[.slice Ax nx cx, .int .i64 xo, .int .i64 xr, .int .i64 xk, .int .i64 xl] (w.heap.size + 1 + 1) (by simp)).alloc (.cells #[.slice Ay ny cy, .int .i64 yo, .int .i64 yr, .int .i64 yk, .int .i64 yl] 26)).alloc (.cells #[.slice Am nm cm, .int .i64 mo, .int .i64 mr, .int .i64 mk, .int .i64 ml] 26))
  have Hy0 := Lib.hid ((Blk.new_ (((w.alloc (.cells #[.int .u8 (y0 : Int), .int .u8 (y1 : Int), .int .u8 (y2 : Int)] 43)).alloc (.cells #[.int .u8 (t0 : Int), .int .u8 (t1 : Int), .int .u8 (t2 : Int)] 43)).alloc (.cells #[.slice Ax nx cx, .int .i64 xo, .int .i64 xr, .int .i64 xk, .int .i64 xl] 26)) 26 #[.slice Ay ny cy, .int .i64 yo, .int .i64 yr, .int .i64 yk, .int .i64 yl] (w.heap.size + 1 + 1 + 1) (by simp)).alloc (.cells #[.slice Am nm cm, .int .i64 mo, .int .i64 mr, .int .i64 mk, .int .i64 ml] 26))
  have Hm0 := Lib.hid (Blk.new_ ((((w.alloc (.cells #[.int .u8 (y0 : Int), .int .u8 (y1 : Int), .int .u8 (y2 : Int)] 43)).alloc (.cells #[.int .u8 (t0 : Int), .int .u8 (t1 : Int), .int .u8 (t2 : Int)] 43)).alloc (.cells #[.slice Ax nx cx, .int .i64 xo, .int .i64 xr, .int .i64 xk, .int .i64 xl] 26)).alloc (.cells #[.slice Ay ny cy, .int .i64 yo, .int .i64 yr, .int .i64 yk, .int .i64 yl] 26)) 26 #[.slice Am nm cm, .int .i64 mo, .int .i64 mr, .int .i64 mk, .int .i64 ml] (w.heap.size + 1 + 1 + 1 + 1) (by simp))
  have HB0 := Lib.hid ((((((Below.refl w.heap.size w).alloc (Nat.le_refl _) (.cells #[.int .u8 (y0 : Int), .int .u8 (y1 : Int), .int .u8 (y2 : Int)] 43)).alloc (by simp) (.cells #[.int .u8 (t0 : Int), .int .u8 (t1 : Int), .int .u8 (t2 : Int)] 43)).alloc (by simp; omega) (.cells #[.slice Ax nx cx, .int .i64 xo, .int .i64 xr, .int .i64 xk, .int .i64 xl] 26)).alloc (by simp; omega) (.cells #[.slice Ay ny cy, .int .i64 yo, .int .i64 yr, .int .i64 yk, .int .i64 yl] 26)).alloc (by simp; omega) (.cells #[.slice Am nm cm, .int .i64 mo, .int .i64 mr, .int .i64 mk, .int .i64 ml] 26))
  obtain ⟨i0, i1, i2⟩ := cells3v Hi0.out
  obtain ⟨j0, j1, j2⟩ := cells3v Hj0.out
  obtain ⟨x0, x1, x2, x3, x4⟩ := cells5 Hx0.out
  obtain ⟨y0, y1, y2, y3, y4⟩ := cells5 Hy0.out
  obtain ⟨m0, m1, m2, m3, m4⟩ := cells5 Hm0.out
  go_wp2_with fail
  refine (awake13_any _).mono ?_
  rintro e w1 ⟨rfl, hb⟩
  have Hi1 := Lib.hid (Hi0.out.nxt hb)
  have Hj1 := Lib.hid (Hj0.out.nxt hb)
  have Hx1 := Lib.hid (Hx0.out.nxt hb)
  have Hy1 := Lib.hid (Hy0.out.nxt hb)
  have Hm1 := Lib.hid (Hm0.out.nxt hb)
  have HB1 := Lib.hid (below_nx HB0.out hb)
  clear hb
  clear i0 i1 i2 j0 j1 j2 x0 x1 x2 x3 x4 y0 y1 y2 y3 y4 m0 m1 m2 m3 m4
  obtain ⟨i0, i1, i2⟩ := cells3v Hi1.out
  obtain ⟨j0, j1, j2⟩ := cells3v Hj1.out
  obtain ⟨x0, x1, x2, x3, x4⟩ := cells5 Hx1.out
  obtain ⟨y0, y1, y2, y3, y4⟩ := cells5 Hy1.out
  obtain ⟨m0, m1, m2, m3, m4⟩ := cells5 Hm1.out
  clear Hi0 Hj0 Hx0 Hy0 Hm0 HB0
  go_wp2_with fail
  refine (HGr.out _).mono ?_
  rintro e w2 ⟨rfl, hb⟩
  have Hi2 := Lib.hid (Hi1.out.nxt hb)
  have Hj2 := Lib.hid (Hj1.out.nxt hb)
  have Hx2 := Lib.hid (Hx1.out.nxt hb)
  have Hy2 := Lib.hid (Hy1.out.nxt hb)
  have Hm2 := Lib.hid (Hm1.out.nxt hb)
  have HB2 := Lib.hid (below_nx HB1.out hb)
  clear hb
  clear i0 i1 i2 j0 j1 j2 x0 x1 x2 x3 x4 y0 y1 y2 y3 y4 m0 m1 m2 m3 m4
  obtain ⟨i0, i1, i2⟩ := cells3v Hi2.out
  obtain ⟨j0, j1, j2⟩ := cells3v Hj2.out
  obtain ⟨x0, x1, x2, x3, x4⟩ := cells5 Hx2.out
  obtain ⟨y0, y1, y2, y3, y4⟩ := cells5 Hy2.out
  obtain ⟨m0, m1, m2, m3, m4⟩ := cells5 Hm2.out
  clear Hi1 Hj1 Hx1 Hy1 Hm1 HB1
  go_wp2_with fail
  refine wp_region_inv [26, 27, 28, 29, 15, 16] (fun d s W => (d 0 = true → s 26 = .agg #[.slice Am nm cm, .int .i64 mo, .int .i64 mr, .int .i64 mk, .int .i64 ml]) ∧ (d 1 = true → OwM W (s 27) w2.heap.size lm nm mo mr mk ml) ∧ (d 2 = true → s 28 = .agg #[.slice Am nm cm, .int .i64 mo, .int .i64 mr, .int .i64 mk, .int .i64 ml]) ∧ (d 3 = true → OwM W (s 29) w2.heap.size lm nm mo mr mk ml) ∧ (d 4 = true → NbM W (s 15) w2.heap.size) ∧ (d 5 = true → NbM W (s 16) w2.heap.size) ∧ (d 6 = true → PqM W (s 15) (lb (s 27)) w2.heap.size lm nm mo mr mk ml) ∧ (d 7 = true → PqM W (s 16) (lb (s 29)) w2.heap.size lm nm mo mr mk ml) ∧ (d 6 = true → d 4 = true) ∧ (d 7 = true → d 5 = true) ∧ (d 4 = true → d 5 = true → s 15 ≠ s 16) ∧ (d 1 = true → d 3 = true → lb (s 27) ≠ lb (s 29)) ∧ (d 6 = true → d 1 = true) ∧ (d 7 = true → d 3 = true) ∧ Below w2.heap.size w2 W)
    rfl (by kernel_rfl) ?_ ?_ ?_
  · exact ⟨by simp, by simp, by simp, by simp, by simp, by simp, by simp, by simp, by simp, by simp, by simp, by simp, by simp, by simp, (Below.refl _ _).drew⟩
  · refine ⟨?_, ?_, ?_, ?_, ?_, ?_, ?_, ?_, trivial⟩
    all_goals
      intro d s W hJ hfr hd hdep
      simp only [List.mem_cons, forall_eq_or_imp, List.not_mem_nil, false_implies, implies_true, and_true, Region.binds] at hdep
      have f13 := hfr 13 (by decide)
      simp at f13 hdep
      obtain ⟨h0, h1, h2, h3, h4, h5, h6, h7, x0, x1, x2, x3, x4, x5, hT⟩ := hJ
    · as_aux_lemma =>
        unfold OpSteps
        obtain ⟨p0, p1, p2, p3, p4⟩ := cells5 (Hm2.out.below hT Hm2.out.lt)
        simp [go_sem, evS, f13, p0, p1, p2, p3, p4]
        exact ⟨fun _ => by simp [sput], fun h => by simpa [sput] using h1 (by simpa [did] using h), kpw h2, fun h => by simpa [sput] using h3 (by simpa [did] using h), fun h => by simpa [sput] using h4 (by simpa [did] using h), fun h => by simpa [sput] using h5 (by simpa [did] using h), fun h => by simpa [sput] using h6 (by simpa [did] using h), fun h => by simpa [sput] using h7 (by simpa [did] using h), by simpa [sput, did] using x0, by simpa [sput, did] using x1, by simpa [sput, did] using x2, by simpa [sput, did] using x3, by simpa [sput, did] using x4, by simpa [sput, did] using x5, hT⟩
    · as_aux_lemma =>
        have g0 := h0 (by simp [hdep])
        unfold OpSteps
        simp [go_sem, evS, g0]
        refine (HApm.out W (below_nx HB2.out hT)).mono ?_
        rintro e W' ⟨g9, c9, rfl, ho, hg, hb⟩
        refine ⟨_, rfl, ?_⟩
        exact ⟨kpw h0, fun _ => ⟨g9, c9, by simp [sput], ho, Nat.le_trans hT.size hg⟩, kpw h2, fun h => by simpa [sput] using (h3 (by simpa [did] using h)).below hb, fun h => by simpa [sput] using (h4 (by simpa [did] using h)).below hb, fun h => by simpa [sput] using (h5 (by simpa [did] using h)).below hb, fun h => by have := x4 (by simpa [did] using h); simp [hd] at this, fun h => by simpa [sput] using (h7 (by simpa [did] using h)).below hb, by simpa [sput, did] using x0, by simpa [sput, did] using x1, by simpa [sput, did] using x2, fun _ e3 => by have hq := (h3 (by simpa [did] using e3)).lb_lt; simp [sput, lb_mat]; omega, fun _ => by simp [did], by simpa [sput, did] using x5, below_nx hT hb⟩
    · as_aux_lemma =>
        unfold OpSteps
        obtain ⟨p0, p1, p2, p3, p4⟩ := cells5 (Hm2.out.below hT Hm2.out.lt)
        simp [go_sem, evS, f13, p0, p1, p2, p3, p4]
        exact ⟨kpw h0, fun h => by simpa [sput] using h1 (by simpa [did] using h), fun _ => by simp [sput], fun h => by simpa [sput] using h3 (by simpa [did] using h), fun h => by simpa [sput] using h4 (by simpa [did] using h), fun h => by simpa [sput] using h5 (by simpa [did] using h), fun h => by simpa [sput] using h6 (by simpa [did] using h), fun h => by simpa [sput] using h7 (by simpa [did] using h), by simpa [sput, did] using x0, by simpa [sput, did] using x1, by simpa [sput, did] using x2, by simpa [sput, did] using x3, by simpa [sput, did] using x4, by simpa [sput, did] using x5, hT⟩
    · as_aux_lemma =>
        have g2 := h2 (by simp [hdep])
        unfold OpSteps
        simp [go_sem, evS, g2]
        refine (HApm.out W (below_nx HB2.out hT)).mono ?_
        rintro e W' ⟨g9, c9, rfl, ho, hg, hb⟩
        refine ⟨_, rfl, ?_⟩
        exact ⟨kpw h0, fun h => by simpa [sput] using (h1 (by simpa [did] using h)).below hb, kpw h2, fun _ => ⟨g9, c9, by simp [sput], ho, Nat.le_trans hT.size hg⟩, fun h => by simpa [sput] using (h4 (by simpa [did] using h)).below hb, fun h => by simpa [sput] using (h5 (by simpa [did] using h)).below hb, fun h => by simpa [sput] using (h6 (by simpa [did] using h)).below hb, fun h => by have := x5 (by simpa [did] using h); simp [hd] at this, by simpa [sput, did] using x0, by simpa [sput, did] using x1, by simpa [sput, did] using x2, fun e1 _ => by have hq := (h1 (by simpa [did] using e1)).lb_lt; simp [sput, lb_mat]; omega, by simpa [sput, did] using x4, fun _ => by simp [did], below_nx hT hb⟩
    · as_aux_lemma =>
        unfold OpSteps
        simp [go_sem, evS]
        exact ⟨kpw h0, fun h => by simpa [sput] using (h1 (by simpa [did] using h)).below below_one, kpw h2, fun h => by simpa [sput] using (h3 (by simpa [did] using h)).below below_one, fun _ => ⟨W.heap.size, _, _, _, _, _, by simp [sput], Blk.new W _ _, hT.size⟩, fun h => by simpa [sput] using (h5 (by simpa [did] using h)).below below_one, fun h => by have := x0 (by simpa [did] using h); simp [hd] at this, fun h => by simpa [sput] using (h7 (by simpa [did] using h)).below below_one, fun _ => by simp [did], by simpa [sput, did] using x1, fun _ e8 => by have hq := (h5 (by simpa [did] using e8)).new_ne; simp [sput]; exact fun e => hq e.symm, by simpa [sput, did] using x3, by simpa [sput, did] using x4, by simpa [sput, did] using x5, below_al hT⟩
    · as_aux_lemma =>
        unfold OpSteps
        simp [go_sem, evS]
        exact ⟨kpw h0, fun h => by simpa [sput] using (h1 (by simpa [did] using h)).below below_one, kpw h2, fun h => by simpa [sput] using (h3 (by simpa [did] using h)).below below_one, fun h => by simpa [sput] using (h4 (by simpa [did] using h)).below below_one, fun _ => ⟨W.heap.size, _, _, _, _, _, by simp [sput], Blk.new W _ _, hT.size⟩, fun h => by simpa [sput] using (h6 (by simpa [did] using h)).below below_one, fun h => by have := x1 (by simpa [did] using h); simp [hd] at this, by simpa [sput, did] using x0, fun _ => by simp [did], fun e7 _ => by have hq := (h4 (by simpa [did] using e7)).new_ne; simp [sput]; exact hq, by simpa [sput, did] using x3, by simpa [sput, did] using x4, by simpa [sput, did] using x5, below_al hT⟩
    · as_aux_lemma =>
        have g4 := h4 (by simp [hdep])
        have g1 := h1 (by simp [hdep])
        unfold OpSteps
        obtain ⟨p9, z0, z1, z2, z3, z4, gp, hB9, hlo⟩ := g4
        obtain ⟨g9, c9, gv, gO, gz⟩ := g1
        have e7 : d 4 = true := by simp [hdep]
        obtain ⟨fr0, fr1, fr2, fr3, fr4⟩ := frozen5w hB9
        obtain ⟨k0, k1, k2, k3, k4⟩ := cells5 hB9
        have hfar : ∀ k9, k9 ≠ p9 → _ := fun k9 (hk9 : k9 ≠ p9) => heap_sets5 (w := W) hk9 (.slice (some ⟨g9, 0, none⟩) nm c9) (.int .i64 mo) (.int .i64 mr) (.int .i64 mk) (.int .i64 ml)
        simp [go_sem, evS, gp, gv, fr0, fr1, fr2, fr3, fr4, k0, k1, k2, k3, k4]
        exact ⟨kpw h0, fun h => by simpa [sput] using (h1 (by simpa [did] using h)).far hB9 (by decide) hfar, kpw h2, fun h => by simpa [sput] using (h3 (by simpa [did] using h)).far hB9 (by decide) hfar, fun h => ⟨p9, _, _, _, _, _, by simpa [sput] using gp, Blk.store5 hB9 _ _ _ _ _, hlo⟩, fun h => by simpa [sput] using (h5 (by simpa [did] using h)).far (fun e => x2 e7 (by simpa [did] using h) (gp.trans e.symm)) hfar, fun _ => by simp only [sput, gv, lb_mat]; exact ⟨p9, c9, by simpa using gp, Blk.store5 hB9 _ _ _ _ _, own_off gO (own_ne gO hB9 (by decide)) hfar, hlo, gz⟩, fun h => by simpa [sput] using (h7 (by simpa [did] using h)).far hB9 (by decide) (fun e => x2 e7 (x1 (by simpa [did] using h)) (gp.trans e.symm)) hfar, fun _ => by simp [did, hdep], by simpa [sput, did] using x1, by simpa [sput, did] using x2, by simpa [sput, did] using x3, fun _ => by simp [did, hdep], by simpa [sput, did] using x5, below_sets5 hT hlo _ _ _ _ _⟩
    · as_aux_lemma =>
        have g5 := h5 (by simp [hdep])
        have g3 := h3 (by simp [hdep])
        unfold OpSteps
        obtain ⟨p9, z0, z1, z2, z3, z4, gp, hB9, hlo⟩ := g5
        obtain ⟨g9, c9, gv, gO, gz⟩ := g3
        have e7 : d 5 = true := by simp [hdep]
        obtain ⟨fr0, fr1, fr2, fr3, fr4⟩ := frozen5w hB9
        obtain ⟨k0, k1, k2, k3, k4⟩ := cells5 hB9
        have hfar : ∀ k9, k9 ≠ p9 → _ := fun k9 (hk9 : k9 ≠ p9) => heap_sets5 (w := W) hk9 (.slice (some ⟨g9, 0, none⟩) nm c9) (.int .i64 mo) (.int .i64 mr) (.int .i64 mk) (.int .i64 ml)
        simp [go_sem, evS, gp, gv, fr0, fr1, fr2, fr3, fr4, k0, k1, k2, k3, k4]
        exact ⟨kpw h0, fun h => by simpa [sput] using (h1 (by simpa [did] using h)).far hB9 (by decide) hfar, kpw h2, fun h => by simpa [sput] using (h3 (by simpa [did] using h)).far hB9 (by decide) hfar, fun h => by simpa [sput] using (h4 (by simpa [did] using h)).far (fun e => x2 (by simpa [did] using h) e7 (e.trans gp.symm)) hfar, fun h => ⟨p9, _, _, _, _, _, by simpa [sput] using gp, Blk.store5 hB9 _ _ _ _ _, hlo⟩, fun h => by simpa [sput] using (h6 (by simpa [did] using h)).far hB9 (by decide) (fun e => x2 (x0 (by simpa [did] using h)) e7 (e.trans gp.symm)) hfar, fun _ => by simp only [sput, gv, lb_mat]; exact ⟨p9, c9, by simpa using gp, Blk.store5 hB9 _ _ _ _ _, own_off gO (own_ne gO hB9 (by decide)) hfar, hlo, gz⟩, by simpa [sput, did] using x0, fun _ => by simp [did, hdep], by simpa [sput, did] using x2, by simpa [sput, did] using x3, by simpa [sput, did] using x4, fun _ => by simp [did, hdep], below_sets5 hT hlo _ _ _ _ _⟩
  intro d s W hJ hd
  obtain ⟨h0, h1, h2, h3, h4, h5, h6, h7, x0, x1, x2, x3, x4, x5, hT⟩ := hJ
  have hgpq := x3 (hd 1 (by decide)) (hd 3 (by decide))
  have h6' := h6 (hd 6 (by decide))
  have h7' := h7 (hd 7 (by decide))
  have hpp := x2 (hd 4 (by decide)) (hd 5 (by decide))
  clear h0 h1 h2 h3 h4 h5 h6 h7 x0 x1 x2 x3 x4 x5 hd
  generalize lb (s 27) = gp at *
  generalize lb (s 29) = gq at *
  obtain ⟨pp, cp9, hs11, hBp, hOp, hpl, hgl2⟩ := h6'
  obtain ⟨pq, cq9, hs12, hBq, hOq, hql, hgl3⟩ := h7'
  have hpq : pp ≠ pq := fun e => hpp (by rw [hs11, hs12, e])
  have hb : Below w2.heap.size w2 W := hT
  clear hpp hT
  simp [setAll, hs11, hs12]
  clear hs11 hs12
  generalize s 26 = s26
  generalize s 27 = s27
  generalize s 28 = s28
  generalize s 29 = s29
  have hy5 : w.heap.size + 1 + 1 + 1 + 1 < w2.heap.size := Hm2.out.lt
  have HNe := Lib.hid (show gp ≠ gq ∧ pp ≠ pq ∧ w.heap.size + 1 + 1 + 1 + 1 < pp ∧ w.heap.size + 1 + 1 + 1 + 1 < pq ∧ w.heap.size + 1 + 1 + 1 + 1 < gp ∧ w.heap.size + 1 + 1 + 1 + 1 < gq from by refine ⟨hgpq, hpq, by omega, by omega, by omega, by omega⟩)
  clear hy5 hpq hgpq hpl hgl2 hql hgl3
  generalize hW6 : W = w6 at *
  clear hW6
  have Hi3 := Lib.hid (Hi2.out.nxt hb)
  have Hj3 := Lib.hid (Hj2.out.nxt hb)
  have Hx3 := Lib.hid (Hx2.out.nxt hb)
  have Hy3 := Lib.hid (Hy2.out.nxt hb)
  have Hm3 := Lib.hid (Hm2.out.nxt hb)
  have HB3 := Lib.hid (below_nx HB2.out hb)
  clear hb
  clear i0 i1 i2 j0 j1 j2 x0 x1 x2 x3 x4 y0 y1 y2 y3 y4 m0 m1 m2 m3 m4
  obtain ⟨i0, i1, i2⟩ := cells3v Hi3.out
  obtain ⟨j0, j1, j2⟩ := cells3v Hj3.out
  obtain ⟨x0, x1, x2, x3, x4⟩ := cells5 Hx3.out
  obtain ⟨y0, y1, y2, y3, y4⟩ := cells5 Hy3.out
  obtain ⟨m0, m1, m2, m3, m4⟩ := cells5 Hm3.out
  clear Hi2 Hj2 Hx2 Hy2 Hm2 HB2
  have Hp3 := Lib.hid hBp
  have Hq3 := Lib.hid hBq
  have Hu3 := Lib.hid hOp
  have Hv3 := Lib.hid hOq
  clear hBp hBq hOp hOq
  clear i0 i1 i2 j0 j1 j2 x0 x1 x2 x3 x4 y0 y1 y2 y3 y4 m0 m1 m2 m3 m4
  clear HApm HGr
  obtain ⟨i0, i1, i2⟩ := cells3v Hi3.out
  obtain ⟨j0, j1, j2⟩ := cells3v Hj3.out
  obtain ⟨x0, x1, x2, x3, x4⟩ := cells5 Hx3.out
  obtain ⟨y0, y1, y2, y3, y4⟩ := cells5 Hy3.out
  obtain ⟨m0, m1, m2, m3, m4⟩ := cells5 Hm3.out
  obtain ⟨p0, p1, p2, p3, p4⟩ := cells5 Hp3.out
  obtain ⟨q0, q1, q2, q3, q4⟩ := cells5 Hq3.out
  obtain ⟨en0, wn0, vn0, un0, rn0⟩ := Wn0.out
  obtain ⟨en1, wn1, vn1, un1, rn1⟩ := Wn1.out
  obtain ⟨en2, wn2, vn2, un2, rn2⟩ := Wn2.out
  go_wp2_with fail
  clear en0 wn0 vn0 un0 rn0 Wn0 en1 wn1 vn1 un1 rn1 Wn1 en2 wn2 vn2 un2 rn2 Wn2
  refine (HPr.out n0 n1 n2 HbN.out.1 HbN.out.2.1 HbN.out.2.2.1 _ gp cp9 HB3.out (by have := HNe.out; omega) Hu3.out).mono ?_
  rintro e w8 ⟨rfl, hb⟩
  have Hi4 := Lib.hid (Hi3.out.nxt hb)
  have Hj4 := Lib.hid (Hj3.out.nxt hb)
  have Hx4 := Lib.hid (Hx3.out.nxt hb)
  have Hy4 := Lib.hid (Hy3.out.nxt hb)
  have Hm4 := Lib.hid (Hm3.out.nxt hb)
  have Hp4 := Lib.hid (Hp3.out.nxt hb)
  have Hq4 := Lib.hid (Hq3.out.nxt hb)
  have Hu4 := Lib.hid (Hu3.out.nxt hb)
  have Hv4 := Lib.hid (Hv3.out.nxt hb)
  have HB4 := Lib.hid (below_nx HB3.out hb)
  clear hb
  clear i0 i1 i2 j0 j1 j2 x0 x1 x2 x3 x4 y0 y1 y2 y3 y4 m0 m1 m2 m3 m4 p0 p1 p2 p3 p4 q0 q1 q2 q3 q4
  obtain ⟨i0, i1, i2⟩ := cells3v Hi4.out
  obtain ⟨j0, j1, j2⟩ := cells3v Hj4.out
  obtain ⟨x0, x1, x2, x3, x4⟩ := cells5 Hx4.out
  obtain ⟨y0, y1, y2, y3, y4⟩ := cells5 Hy4.out
  obtain ⟨m0, m1, m2, m3, m4⟩ := cells5 Hm4.out
  obtain ⟨p0, p1, p2, p3, p4⟩ := cells5 Hp4.out
  obtain ⟨q0, q1, q2, q3, q4⟩ := cells5 Hq4.out
  clear Hi3 Hj3 Hx3 Hy3 Hm3 Hp3 Hq3 Hu3 Hv3 HB3
  obtain ⟨en3, wn3, vn3, un3, rn3⟩ := Wn3.out
  obtain ⟨en4, wn4, vn4, un4, rn4⟩ := Wn4.out
  obtain ⟨en5, wn5, vn5, un5, rn5⟩ := Wn5.out
  go_wp2_with fail
  clear en3 wn3 vn3 un3 rn3 Wn3 en4 wn4 vn4 un4 rn4 Wn4 en5 wn5 vn5 un5 rn5 Wn5
  refine (HPr.out n3 n4 n5 HbN.out.2.2.2.1 HbN.out.2.2.2.2.1 HbN.out.2.2.2.2.2 _ gq cq9 HB4.out (by have := HNe.out; omega) Hv4.out).mono ?_
  rintro e w9 ⟨rfl, hb⟩
  have Hi5 := Lib.hid (Hi4.out.nxt hb)
  have Hj5 := Lib.hid (Hj4.out.nxt hb)
  have Hx5 := Lib.hid (Hx4.out.nxt hb)
  have Hy5 := Lib.hid (Hy4.out.nxt hb)
  have Hm5 := Lib.hid (Hm4.out.nxt hb)
  have Hp5 := Lib.hid (Hp4.out.nxt hb)
  have Hq5 := Lib.hid (Hq4.out.nxt hb)
  have Hu5 := Lib.hid (Hu4.out.nxt hb)
  have Hv5 := Lib.hid (Hv4.out.nxt hb)
  have HB5 := Lib.hid (below_nx HB4.out hb)
  clear hb
  clear i0 i1 i2 j0 j1 j2 x0 x1 x2 x3 x4 y0 y1 y2 y3 y4 m0 m1 m2 m3 m4 p0 p1 p2 p3 p4 q0 q1 q2 q3 q4
  obtain ⟨i0, i1, i2⟩ := cells3v Hi5.out
  obtain ⟨j0, j1, j2⟩ := cells3v Hj5.out
  obtain ⟨x0, x1, x2, x3, x4⟩ := cells5 Hx5.out
  obtain ⟨y0, y1, y2, y3, y4⟩ := cells5 Hy5.out
  obtain ⟨m0, m1, m2, m3, m4⟩ := cells5 Hm5.out
  obtain ⟨p0, p1, p2, p3, p4⟩ := cells5 Hp5.out
  obtain ⟨q0, q1, q2, q3, q4⟩ := cells5 Hq5.out
  clear Hi4 Hj4 Hx4 Hy4 Hm4 Hp4 Hq4 Hu4 Hv4 HB4
  go_wp2_with fail
  refine (HAll.out _ _ _ _ _ Hu5.out.row Hv5.out.row).mono ?_
  rintro e wa ⟨rfl, hb⟩
  have Hi6 := Lib.hid (Hi5.out.nxt hb)
  have Hj6 := Lib.hid (Hj5.out.nxt hb)
  have Hx6 := Lib.hid (Hx5.out.nxt hb)
  have Hy6 := Lib.hid (Hy5.out.nxt hb)
  have Hm6 := Lib.hid (Hm5.out.nxt hb)
  have Hp6 := Lib.hid (Hp5.out.nxt hb)
  have Hq6 := Lib.hid (Hq5.out.nxt hb)
  have Hu6 := Lib.hid (Hu5.out.nxt hb)
  have Hv6 := Lib.hid (Hv5.out.nxt hb)
  have HB6 := Lib.hid (below_nx HB5.out hb)
  clear hb
  clear i0 i1 i2 j0 j1 j2 x0 x1 x2 x3 x4 y0 y1 y2 y3 y4 m0 m1 m2 m3 m4 p0 p1 p2 p3 p4 q0 q1 q2 q3 q4
  obtain ⟨i0, i1, i2⟩ := cells3v Hi6.out
  obtain ⟨j0, j1, j2⟩ := cells3v Hj6.out
  obtain ⟨x0, x1, x2, x3, x4⟩ := cells5 Hx6.out
  obtain ⟨y0, y1, y2, y3, y4⟩ := cells5 Hy6.out
  obtain ⟨m0, m1, m2, m3, m4⟩ := cells5 Hm6.out
  obtain ⟨p0, p1, p2, p3, p4⟩ := cells5 Hp6.out
  obtain ⟨q0, q1, q2, q3, q4⟩ := cells5 Hq6.out
  clear Hi5 Hj5 Hx5 Hy5 Hm5 Hp5 Hq5 Hu5 Hv5 HB5
  go_wp2_with fail
  refine (awake13_any _).mono ?_
  rintro e wb ⟨rfl, hb⟩
  have Hi7 := Lib.hid (Hi6.out.nxt hb)
  have Hj7 := Lib.hid (Hj6.out.nxt hb)
  have Hx7 := Lib.hid (Hx6.out.nxt hb)
  have Hy7 := Lib.hid (Hy6.out.nxt hb)
  have Hm7 := Lib.hid (Hm6.out.nxt hb)
  have Hp7 := Lib.hid (Hp6.out.nxt hb)
  have Hq7 := Lib.hid (Hq6.out.nxt hb)
  have Hu7 := Lib.hid (Hu6.out.nxt hb)
  have Hv7 := Lib.hid (Hv6.out.nxt hb)
  have HB7 := Lib.hid (below_nx HB6.out hb)
  clear hb
  clear i0 i1 i2 j0 j1 j2 x0 x1 x2 x3 x4 y0 y1 y2 y3 y4 m0 m1 m2 m3 m4 p0 p1 p2 p3 p4 q0 q1 q2 q3 q4
  obtain ⟨i0, i1, i2⟩ := cells3v Hi7.out
  obtain ⟨j0, j1, j2⟩ := cells3v Hj7.out
  obtain ⟨x0, x1, x2, x3, x4⟩ := cells5 Hx7.out
  obtain ⟨y0, y1, y2, y3, y4⟩ := cells5 Hy7.out
  obtain ⟨m0, m1, m2, m3, m4⟩ := cells5 Hm7.out
  obtain ⟨p0, p1, p2, p3, p4⟩ := cells5 Hp7.out
  obtain ⟨q0, q1, q2, q3, q4⟩ := cells5 Hq7.out
  clear Hi6 Hj6 Hx6 Hy6 Hm6 Hp6 Hq6 Hu6 Hv6 HB6
  go_wp2_with fail
  go_ret
  exact ⟨rfl, HB7.out⟩

set_option maxRecDepth 100000 in
set_option maxHeartbeats 4000000 in
theorem blockAlike_ok (y0 y1 y2 t0 t1 t2 : Nat) (a b : Nat) (Ax : Option Addr) (nx cx : Nat) (lx : List Nat) (Ay : Option Addr) (ny cy : Nat) (ly : List Nat) (Am : Option Addr) (nm cm : Nat) (lm : List Nat) (ox Lx oy Ly o L R K C : Nat) (w : World) (hy0 : y0 < 256) (hy1 : y1 < 256) (hy2 : y2 < 256) (ht0 : t0 < 256) (ht1 : t1 < 256) (ht2 : t2 < 256) (hFx : ∀ W g, Below w.heap.size w W → w.heap.size ≤ g → FarM W Ax lx g) (hFy : ∀ W g, Below w.heap.size w W → w.heap.size ≤ g → FarM W Ay ly g) (hAm : Row w Am (f64s lm)) (hWx : Wds lx) (hWy : Wds ly) (hWm : Wds lm) (hlx : lx.length = nx) (hly : ly.length = ny) (hlm : lm.length = nm) (hnx : nx ≤ 1000) (hny : ny ≤ 1000) (hnm : nm ≤ 1000) (hG : (greatB nx (R : Int) (K : Int) || greatB ny (K : Int) (C : Int) || greatB nm (R : Int) (C : Int)) = false) (ha : a < 18446744073709551616) (hb0 : b < 18446744073709551616) (hRb : R ≤ 20) (hKb : K ≤ 20) (hCb : C ≤ 20) (hiox : I64 ox) (hilx : I64 Lx) (hLx : 1 ≤ Lx) (hRLx : R ≤ Lx) (hrx : R = 0 ∨ K = 0 ∨ ox + (K - 1) * Lx + (R - 1) < nx) (hioy : I64 oy) (hily : I64 Ly) (hLy : 1 ≤ Ly) (hRLy : K ≤ Ly) (hry : K = 0 ∨ C = 0 ∨ oy + (C - 1) * Ly + (K - 1) < ny) (hiom : I64 o) (hilm : I64 L) (hLm : 1 ≤ L) (hRLm : R ≤ L) (hrm : R = 0 ∨ C = 0 ∨ o + (C - 1) * L + (R - 1) < nm) :
    Calls Try.prog 4 #[.agg #[.int .u8 (y0 : Int), .int .u8 (y1 : Int), .int .u8 (y2 : Int)], .agg #[.int .u8 (t0 : Int), .int .u8 (t1 : Int), .int .u8 (t2 : Int)], .float .f64 a, mat Ax nx cx ox R K Lx, mat Ay ny cy oy K C Ly, .float .f64 b, mat Am nm cm o R C L] w fun e w' => e = .returned (.bool true) ∧ Below w.heap.size w w' := by
  have HGr := Lib.hid (fun W => bgreat_any Ax nx cx ox R K Lx Ay ny cy oy K C Ly Am nm cm o R C L W)
  rw [hG] at HGr
  have HApm := Lib.hid (apart_c Am nm cm lm o R C L w hAm hlm (by omega))
  have HPr := Lib.hid (fun (n1 n2 n3 : Nat) (h1 : 1 ≤ n1 ∧ n1 ≤ 256) (h2 : 1 ≤ n2 ∧ n2 ≤ 256) (h3 : 1 ≤ n3 ∧ n3 ≤ 256) W (g cg : Nat) (hb : Below w.heap.size w W) (hg : w.heap.size ≤ g) (hO : Own W g lm) => show Calls Try.prog 9 #[.agg #[.int .i64 (n1 : Int), .int .i64 (n2 : Int), .int .i64 (n3 : Int)], .float .f64 a, mat Ax nx cx ox R K Lx, mat Ay ny cy oy K C Ly, .float .f64 b, mat (some ⟨g, 0, none⟩) nm cg o R C L] W fun e w' => e = .returned (.int .i64 0) ∧ ∃ l', Own w' g l' ∧ Imr lm o R C L (BkP a b lm o L (rowF lx ox Lx) (colF ly oy Ly) (fun _ _ => K)) l' ∧ Chg [g] W w' from
    bkmul_two n1 n2 n3 a b Ax cx nx lx ox Lx Ay cy ny ly oy Ly g cg nm lm o L R K C W (by omega) (by omega) (by omega) ha hb0 (hFx W g hb hg) hlx (by omega) hWx hLx hRLx hrx hiox hilx (hFy W g hb hg) hly (by omega) hWy hLy hRLy hry hioy hily hO hlm (by omega) hWm hLm hRLm hrm hiom hilm (by omega) (by omega) (by omega))
  have HAll := Lib.hid (fun W (A B : Option Addr) (c d : Nat) (X Y : List Nat) (hX : Imr lm o R C L (BkP a b lm o L (rowF lx ox Lx) (colF ly oy Ly) (fun _ _ => K)) X) (hY : Imr lm o R C L (BkP a b lm o L (rowF lx ox Lx) (colF ly oy Ly) (fun _ _ => K)) Y) (h1 : Row W A (f64s X)) (h2 : Row W B (f64s Y)) => show Calls Try.prog 12 #[.slice A nm c, .slice B nm d] W fun e w' => e = .returned (.bool true) ∧ Below W.heap.size W w' from by
    have hw1 : Wds X := wds_imre hWm hX (fun i _ j _ r h => h.lt)
    have hw2 : Wds Y := wds_imre hWm hY (fun i _ j _ r h => h.lt)
    have := rall_any A B c d X Y W hw1 hw2 h1 h2 (by rw [hX.1]; omega) (bk_alike hX hY)
    rw [hX.1, hY.1, hlm] at this; exact this)
  obtain ⟨n0, bn0, Wn0⟩ := u8_size hy0
  obtain ⟨n1, bn1, Wn1⟩ := u8_size hy1
  obtain ⟨n2, bn2, Wn2⟩ := u8_size hy2
  obtain ⟨n3, bn3, Wn3⟩ := u8_size ht0
  obtain ⟨n4, bn4, Wn4⟩ := u8_size ht1
  obtain ⟨n5, bn5, Wn5⟩ := u8_size ht2
  have HbN := Lib.hid (And.intro bn0 (And.intro bn1 (And.intro bn2 (And.intro bn3 (And.intro bn4 bn5)))))
  clear hFx hFy hAm hWx hWy hWm hlx hly hlm hnx hny hnm hG bn0 bn1 bn2 bn3 bn4 bn5 hy0 hy1 hy2 ht0 ht1 ht2 ha hb0 hRb hKb hCb hiox hilx hLx hRLx hrx hioy hily hLy hRLy hry hiom hilm hLm hRLm hrm
  unfold mat at *
  go_enter Try.func4, Try.ntmps4
  have Hi0 := Lib.hid (((((Blk.new w 43 #[.int .u8 (y0 : Int), .int .u8 (y1 : Int), .int .u8 (y2 : Int)]).alloc (.cells #[.int .u8 (t0 : Int), .int .u8 (t1 : Int), .int .u8 (t2 : Int)] 43)).alloc (.cells #[.slice Ax nx cx, .int .i64 (ox : Int), .int .i64 (R : Int), .int .i64 (K : Int), .int .i64 (Lx : Int)] 26)).alloc (.cells #[.slice Ay ny cy, .int .i64 (oy : Int), .int .i64 (K : Int), .int .i64 (C : Int), .int .i64 (Ly : Int)] 26)).alloc (.cells #[.slice Am nm cm, .int .i64 (o : Int), .int .i64 (R : Int), .int .i64 (C : Int), .int .i64 (L : Int)] 26))
  have Hj0 := Lib.hid ((((Blk.new_ (w.alloc (.cells #[.int .u8 (y0 : Int), .int .u8 (y1 : Int), .int .u8 (y2 : Int)] 43)) 43 #[.int .u8 (t0 : Int), .int .u8 (t1 : Int), .int .u8 (t2 : Int)] (w.heap.size + 1) (by simp)).alloc (.cells #[.slice Ax nx cx, .int .i64 (ox : Int), .int .i64 (R : Int), .int .i64 (K : Int), .int .i64 (Lx : Int)] 26)).alloc (.cells #[.slice Ay ny cy, .int .i64 (oy : Int), .int .i64 (K : Int), .int .i64 (C : Int), .int .i64 (Ly : Int)] 26)).alloc (.cells #[.slice Am nm cm, .int .i64 (o : Int), .int .i64 (R : Int), .int .i64 (C : Int), .int .i64 (L : Int)] 26))
  have Hx0 := Lib.hid (((Blk.new_ ((w.alloc (.cells #[.int .u8 (y0 : Int), .int .u8 (y1 : Int), .int .u8 (y2 : Int)] 43)).alloc (.cells #[.int .u8 (t0 : Int), .int .u8 (t1 : Int), .int .u8 (t2 : Int)] 43)) 26 #[.slice Ax nx cx, .int .i64 (ox : Int), .int .i64 (R : Int), .int .i64 (K : Int), .int .i64 (Lx : Int)] (w.heap.size + 1 + 1) (by simp)).alloc (.cells #[.slice Ay ny cy, .int .i64 (oy : Int), .int .i64 (K : Int), .int .i64 (C : Int), .int .i64 (Ly : Int)] 26)).alloc (.cells #[.slice Am nm cm, .int .i64 (o : Int), .int .i64 (R : Int), .int .i64 (C : Int), .int .i64 (L : Int)] 26))
  have Hy0 := Lib.hid ((Blk.new_ (((w.alloc (.cells #[.int .u8 (y0 : Int), .int .u8 (y1 : Int), .int .u8 (y2 : Int)] 43)).alloc (.cells #[.int .u8 (t0 : Int), .int .u8 (t1 : Int), .int .u8 (t2 : Int)] 43)).alloc (.cells #[.slice Ax nx cx, .int .i64 (ox : Int), .int .i64 (R : Int), .int .i64 (K : Int), .int .i64 (Lx : Int)] 26)) 26 #[.slice Ay ny cy, .int .i64 (oy : Int), .int .i64 (K : Int), .int .i64 (C : Int), .int .i64 (Ly : Int)] (w.heap.size + 1 + 1 + 1) (by simp)).alloc (.cells #[.slice Am nm cm, .int .i64 (o : Int), .int .i64 (R : Int), .int .i64 (C : Int), .int .i64 (L : Int)] 26))
  have Hm0 := Lib.hid (Blk.new_ ((((w.alloc (.cells #[.int .u8 (y0 : Int), .int .u8 (y1 : Int), .int .u8 (y2 : Int)] 43)).alloc (.cells #[.int .u8 (t0 : Int), .int .u8 (t1 : Int), .int .u8 (t2 : Int)] 43)).alloc (.cells #[.slice Ax nx cx, .int .i64 (ox : Int), .int .i64 (R : Int), .int .i64 (K : Int), .int .i64 (Lx : Int)] 26)).alloc (.cells #[.slice Ay ny cy, .int .i64 (oy : Int), .int .i64 (K : Int), .int .i64 (C : Int), .int .i64 (Ly : Int)] 26)) 26 #[.slice Am nm cm, .int .i64 (o : Int), .int .i64 (R : Int), .int .i64 (C : Int), .int .i64 (L : Int)] (w.heap.size + 1 + 1 + 1 + 1) (by simp))
  have HB0 := Lib.hid ((((((Below.refl w.heap.size w).alloc (Nat.le_refl _) (.cells #[.int .u8 (y0 : Int), .int .u8 (y1 : Int), .int .u8 (y2 : Int)] 43)).alloc (by simp) (.cells #[.int .u8 (t0 : Int), .int .u8 (t1 : Int), .int .u8 (t2 : Int)] 43)).alloc (by simp; omega) (.cells #[.slice Ax nx cx, .int .i64 (ox : Int), .int .i64 (R : Int), .int .i64 (K : Int), .int .i64 (Lx : Int)] 26)).alloc (by simp; omega) (.cells #[.slice Ay ny cy, .int .i64 (oy : Int), .int .i64 (K : Int), .int .i64 (C : Int), .int .i64 (Ly : Int)] 26)).alloc (by simp; omega) (.cells #[.slice Am nm cm, .int .i64 (o : Int), .int .i64 (R : Int), .int .i64 (C : Int), .int .i64 (L : Int)] 26))
  obtain ⟨i0, i1, i2⟩ := cells3v Hi0.out
  obtain ⟨j0, j1, j2⟩ := cells3v Hj0.out
  obtain ⟨x0, x1, x2, x3, x4⟩ := cells5 Hx0.out
  obtain ⟨y0, y1, y2, y3, y4⟩ := cells5 Hy0.out
  obtain ⟨m0, m1, m2, m3, m4⟩ := cells5 Hm0.out
  go_wp2_with fail
  refine (awake13_any _).mono ?_
  rintro e w1 ⟨rfl, hb⟩
  have Hi1 := Lib.hid (Hi0.out.nxt hb)
  have Hj1 := Lib.hid (Hj0.out.nxt hb)
  have Hx1 := Lib.hid (Hx0.out.nxt hb)
  have Hy1 := Lib.hid (Hy0.out.nxt hb)
  have Hm1 := Lib.hid (Hm0.out.nxt hb)
  have HB1 := Lib.hid (below_nx HB0.out hb)
  clear hb
  clear i0 i1 i2 j0 j1 j2 x0 x1 x2 x3 x4 y0 y1 y2 y3 y4 m0 m1 m2 m3 m4
  obtain ⟨i0, i1, i2⟩ := cells3v Hi1.out
  obtain ⟨j0, j1, j2⟩ := cells3v Hj1.out
  obtain ⟨x0, x1, x2, x3, x4⟩ := cells5 Hx1.out
  obtain ⟨y0, y1, y2, y3, y4⟩ := cells5 Hy1.out
  obtain ⟨m0, m1, m2, m3, m4⟩ := cells5 Hm1.out
  clear Hi0 Hj0 Hx0 Hy0 Hm0 HB0
  go_wp2_with fail
  refine (HGr.out _).mono ?_
  rintro e w2 ⟨rfl, hb⟩
  have Hi2 := Lib.hid (Hi1.out.nxt hb)
  have Hj2 := Lib.hid (Hj1.out.nxt hb)
  have Hx2 := Lib.hid (Hx1.out.nxt hb)
  have Hy2 := Lib.hid (Hy1.out.nxt hb)
  have Hm2 := Lib.hid (Hm1.out.nxt hb)
  have HB2 := Lib.hid (below_nx HB1.out hb)
  clear hb
  clear i0 i1 i2 j0 j1 j2 x0 x1 x2 x3 x4 y0 y1 y2 y3 y4 m0 m1 m2 m3 m4
  obtain ⟨i0, i1, i2⟩ := cells3v Hi2.out
  obtain ⟨j0, j1, j2⟩ := cells3v Hj2.out
  obtain ⟨x0, x1, x2, x3, x4⟩ := cells5 Hx2.out
  obtain ⟨y0, y1, y2, y3, y4⟩ := cells5 Hy2.out
  obtain ⟨m0, m1, m2, m3, m4⟩ := cells5 Hm2.out
  clear Hi1 Hj1 Hx1 Hy1 Hm1 HB1
  go_wp2_with fail
  refine wp_region_inv [26, 27, 28, 29, 15, 16] (fun d s W => (d 0 = true → s 26 = .agg #[.slice Am nm cm, .int .i64 (o : Int), .int .i64 (R : Int), .int .i64 (C : Int), .int .i64 (L : Int)]) ∧ (d 1 = true → OwM W (s 27) w2.heap.size lm nm (o : Int) (R : Int) (C : Int) (L : Int)) ∧ (d 2 = true → s 28 = .agg #[.slice Am nm cm, .int .i64 (o : Int), .int .i64 (R : Int), .int .i64 (C : Int), .int .i64 (L : Int)]) ∧ (d 3 = true → OwM W (s 29) w2.heap.size lm nm (o : Int) (R : Int) (C : Int) (L : Int)) ∧ (d 4 = true → NbM W (s 15) w2.heap.size) ∧ (d 5 = true → NbM W (s 16) w2.heap.size) ∧ (d 6 = true → PqM W (s 15) (lb (s 27)) w2.heap.size lm nm (o : Int) (R : Int) (C : Int) (L : Int)) ∧ (d 7 = true → PqM W (s 16) (lb (s 29)) w2.heap.size lm nm (o : Int) (R : Int) (C : Int) (L : Int)) ∧ (d 6 = true → d 4 = true) ∧ (d 7 = true → d 5 = true) ∧ (d 4 = true → d 5 = true → s 15 ≠ s 16) ∧ (d 1 = true → d 3 = true → lb (s 27) ≠ lb (s 29)) ∧ (d 6 = true → d 1 = true) ∧ (d 7 = true → d 3 = true) ∧ Below w2.heap.size w2 W)
    rfl (by kernel_rfl) ?_ ?_ ?_
  · exact ⟨by simp, by simp, by simp, by simp, by simp, by simp, by simp, by simp, by simp, by simp, by simp, by simp, by simp, by simp, (Below.refl _ _).drew⟩
  · refine ⟨?_, ?_, ?_, ?_, ?_, ?_, ?_, ?_, trivial⟩
    all_goals
      intro d s W hJ hfr hd hdep
      simp only [List.mem_cons, forall_eq_or_imp, List.not_mem_nil, false_implies, implies_true, and_true, Region.binds] at hdep
      have f13 := hfr 13 (by decide)
      simp at f13 hdep
      obtain ⟨h0, h1, h2, h3, h4, h5, h6, h7, x0, x1, x2, x3, x4, x5, hT⟩ := hJ
    · as_aux_lemma =>
        unfold OpSteps
        obtain ⟨p0, p1, p2, p3, p4⟩ := cells5 (Hm2.out.below hT Hm2.out.lt)
        simp [go_sem, evS, f13, p0, p1, p2, p3, p4]
        exact ⟨fun _ => by simp [sput], fun h => by simpa [sput] using h1 (by simpa [did] using h), kpw h2, fun h => by simpa [sput] using h3 (by simpa [did] using h), fun h => by simpa [sput] using h4 (by simpa [did] using h), fun h => by simpa [sput] using h5 (by simpa [did] using h), fun h => by simpa [sput] using h6 (by simpa [did] using h), fun h => by simpa [sput] using h7 (by simpa [did] using h), by simpa [sput, did] using x0, by simpa [sput, did] using x1, by simpa [sput, did] using x2, by simpa [sput, did] using x3, by simpa [sput, did] using x4, by simpa [sput, did] using x5, hT⟩
    · as_aux_lemma =>
        have g0 := h0 (by simp [hdep])
        unfold OpSteps
        simp [go_sem, evS, g0]
        refine (HApm.out W (below_nx HB2.out hT)).mono ?_
        rintro e W' ⟨g9, c9, rfl, ho, hg, hb⟩
        refine ⟨_, rfl, ?_⟩
        exact ⟨kpw h0, fun _ => ⟨g9, c9, by simp [sput], ho, Nat.le_trans hT.size hg⟩, kpw h2, fun h => by simpa [sput] using (h3 (by simpa [did] using h)).below hb, fun h => by simpa [sput] using (h4 (by simpa [did] using h)).below hb, fun h => by simpa [sput] using (h5 (by simpa [did] using h)).below hb, fun h => by have := x4 (by simpa [did] using h); simp [hd] at this, fun h => by simpa [sput] using (h7 (by simpa [did] using h)).below hb, by simpa [sput, did] using x0, by simpa [sput, did] using x1, by simpa [sput, did] using x2, fun _ e3 => by have hq := (h3 (by simpa [did] using e3)).lb_lt; simp [sput, lb_mat]; omega, fun _ => by simp [did], by simpa [sput, did] using x5, below_nx hT hb⟩
    · as_aux_lemma =>
        unfold OpSteps
        obtain ⟨p0, p1, p2, p3, p4⟩ := cells5 (Hm2.out.below hT Hm2.out.lt)
        simp [go_sem, evS, f13, p0, p1, p2, p3, p4]
        exact ⟨kpw h0, fun h => by simpa [sput] using h1 (by simpa [did] using h), fun _ => by simp [sput], fun h => by simpa [sput] using h3 (by simpa [did] using h), fun h => by simpa [sput] using h4 (by simpa [did] using h), fun h => by simpa [sput] using h5 (by simpa [did] using h), fun h => by simpa [sput] using h6 (by simpa [did] using h), fun h => by simpa [sput] using h7 (by simpa [did] using h), by simpa [sput, did] using x0, by simpa [sput, did] using x1, by simpa [sput, did] using x2, by simpa [sput, did] using x3, by simpa [sput, did] using x4, by simpa [sput, did] using x5, hT⟩
    · as_aux_lemma =>
        have g2 := h2 (by simp [hdep])
        unfold OpSteps
        simp [go_sem, evS, g2]
        refine (HApm.out W (below_nx HB2.out hT)).mono ?_
        rintro e W' ⟨g9, c9, rfl, ho, hg, hb⟩
        refine ⟨_, rfl, ?_⟩
        exact ⟨kpw h0, fun h => by simpa [sput] using (h1 (by simpa [did] using h)).below hb, kpw h2, fun _ => ⟨g9, c9, by simp [sput], ho, Nat.le_trans hT.size hg⟩, fun h => by simpa [sput] using (h4 (by simpa [did] using h)).below hb, fun h => by simpa [sput] using (h5 (by simpa [did] using h)).below hb, fun h => by simpa [sput] using (h6 (by simpa [did] using h)).below hb, fun h => by have := x5 (by simpa [did] using h); simp [hd] at this, by simpa [sput, did] using x0, by simpa [sput, did] using x1, by simpa [sput, did] using x2, fun e1 _ => by have hq := (h1 (by simpa [did] using e1)).lb_lt; simp [sput, lb_mat]; omega, by simpa [sput, did] using x4, fun _ => by simp [did], below_nx hT hb⟩
    · as_aux_lemma =>
        unfold OpSteps
        simp [go_sem, evS]
        exact ⟨kpw h0, fun h => by simpa [sput] using (h1 (by simpa [did] using h)).below below_one, kpw h2, fun h => by simpa [sput] using (h3 (by simpa [did] using h)).below below_one, fun _ => ⟨W.heap.size, _, _, _, _, _, by simp [sput], Blk.new W _ _, hT.size⟩, fun h => by simpa [sput] using (h5 (by simpa [did] using h)).below below_one, fun h => by have := x0 (by simpa [did] using h); simp [hd] at this, fun h => by simpa [sput] using (h7 (by simpa [did] using h)).below below_one, fun _ => by simp [did], by simpa [sput, did] using x1, fun _ e8 => by have hq := (h5 (by simpa [did] using e8)).new_ne; simp [sput]; exact fun e => hq e.symm, by simpa [sput, did] using x3, by simpa [sput, did] using x4, by simpa [sput, did] using x5, below_al hT⟩
    · as_aux_lemma =>
        unfold OpSteps
        simp [go_sem, evS]
        exact ⟨kpw h0, fun h => by simpa [sput] using (h1 (by simpa [did] using h)).below below_one, kpw h2, fun h => by simpa [sput] using (h3 (by simpa [did] using h)).below below_one, fun h => by simpa [sput] using (h4 (by simpa [did] using h)).below below_one, fun _ => ⟨W.heap.size, _, _, _, _, _, by simp [sput], Blk.new W _ _, hT.size⟩, fun h => by simpa [sput] using (h6 (by simpa [did] using h)).below below_one, fun h => by have := x1 (by simpa [did] using h); simp [hd] at this, by simpa [sput, did] using x0, fun _ => by simp [did], fun e7 _ => by have hq := (h4 (by simpa [did] using e7)).new_ne; simp [sput]; exact hq, by simpa [sput, did] using x3, by simpa [sput, did] using x4, by simpa [sput, did] using x5, below_al hT⟩
    · as_aux_lemma =>
        have g4 := h4 (by simp [hdep])
        have g1 := h1 (by simp [hdep])
        unfold OpSteps
        obtain ⟨p9, z0, z1, z2, z3, z4, gp, hB9, hlo⟩ := g4
        obtain ⟨g9, c9, gv, gO, gz⟩ := g1
        have e7 : d 4 = true := by simp [hdep]
        obtain ⟨fr0, fr1, fr2, fr3, fr4⟩ := frozen5w hB9
        obtain ⟨k0, k1, k2, k3, k4⟩ := cells5 hB9
        have hfar : ∀ k9, k9 ≠ p9 → _ := fun k9 (hk9 : k9 ≠ p9) => heap_sets5 (w := W) hk9 (.slice (some ⟨g9, 0, none⟩) nm c9) (.int .i64 (o : Int)) (.int .i64 (R : Int)) (.int .i64 (C : Int)) (.int .i64 (L : Int))
        simp [go_sem, evS, gp, gv, fr0, fr1, fr2, fr3, fr4, k0, k1, k2, k3, k4]
        exact ⟨kpw h0, fun h => by simpa [sput] using (h1 (by simpa [did] using h)).far hB9 (by decide) hfar, kpw h2, fun h => by simpa [sput] using (h3 (by simpa [did] using h)).far hB9 (by decide) hfar, fun h => ⟨p9, _, _, _, _, _, by simpa [sput] using gp, Blk.store5 hB9 _ _ _ _ _, hlo⟩, fun h => by simpa [sput] using (h5 (by simpa [did] using h)).far (fun e => x2 e7 (by simpa [did] using h) (gp.trans e.symm)) hfar, fun _ => by simp only [sput, gv, lb_mat]; exact ⟨p9, c9, by simpa using gp, Blk.store5 hB9 _ _ _ _ _, own_off gO (own_ne gO hB9 (by decide)) hfar, hlo, gz⟩, fun h => by simpa [sput] using (h7 (by simpa [did] using h)).far hB9 (by decide) (fun e => x2 e7 (x1 (by simpa [did] using h)) (gp.trans e.symm)) hfar, fun _ => by simp [did, hdep], by simpa [sput, did] using x1, by simpa [sput, did] using x2, by simpa [sput, did] using x3, fun _ => by simp [did, hdep], by simpa [sput, did] using x5, below_sets5 hT hlo _ _ _ _ _⟩
    · as_aux_lemma =>
        have g5 := h5 (by simp [hdep])
        have g3 := h3 (by simp [hdep])
        unfold OpSteps
        obtain ⟨p9, z0, z1, z2, z3, z4, gp, hB9, hlo⟩ := g5
        obtain ⟨g9, c9, gv, gO, gz⟩ := g3
        have e7 : d 5 = true := by simp [hdep]
        obtain ⟨fr0, fr1, fr2, fr3, fr4⟩ := frozen5w hB9
        obtain ⟨k0, k1, k2, k3, k4⟩ := cells5 hB9
        have hfar : ∀ k9, k9 ≠ p9 → _ := fun k9 (hk9 : k9 ≠ p9) => heap_sets5 (w := W) hk9 (.slice (some ⟨g9, 0, none⟩) nm c9) (.int .i64 (o : Int)) (.int .i64 (R : Int)) (.int .i64 (C : Int)) (.int .i64 (L : Int))
        simp [go_sem, evS, gp, gv, fr0, fr1, fr2, fr3, fr4, k0, k1, k2, k3, k4]
        exact ⟨kpw h0, fun h => by simpa [sput] using (h1 (by simpa [did] using h)).far hB9 (by decide) hfar, kpw h2, fun h => by simpa [sput] using (h3 (by simpa [did] using h)).far hB9 (by decide) hfar, fun h => by simpa [sput] using (h4 (by simpa [did] using h)).far (fun e => x2 (by simpa [did] using h) e7 (e.trans gp.symm)) hfar, fun h => ⟨p9, _, _, _, _, _, by simpa [sput] using gp, Blk.store5 hB9 _ _ _ _ _, hlo⟩, fun h => by simpa [sput] using (h6 (by simpa [did] using h)).far hB9 (by decide) (fun e => x2 (x0 (by simpa [did] using h)) e7 (e.trans gp.symm)) hfar, fun _ => by simp only [sput, gv, lb_mat]; exact ⟨p9, c9, by simpa using gp, Blk.store5 hB9 _ _ _ _ _, own_off gO (own_ne gO hB9 (by decide)) hfar, hlo, gz⟩, by simpa [sput, did] using x0, fun _ => by simp [did, hdep], by simpa [sput, did] using x2, by simpa [sput, did] using x3, by simpa [sput, did] using x4, fun _ => by simp [did, hdep], below_sets5 hT hlo _ _ _ _ _⟩
  intro d s W hJ hd
  obtain ⟨h0, h1, h2, h3, h4, h5, h6, h7, x0, x1, x2, x3, x4, x5, hT⟩ := hJ
  have hgpq := x3 (hd 1 (by decide)) (hd 3 (by decide))
  have h6' := h6 (hd 6 (by decide))
  have h7' := h7 (hd 7 (by decide))
  have hpp := x2 (hd 4 (by decide)) (hd 5 (by decide))
  clear h0 h1 h2 h3 h4 h5 h6 h7 x0 x1 x2 x3 x4 x5 hd
  generalize lb (s 27) = gp at *
  generalize lb (s 29) = gq at *
  obtain ⟨pp, cp9, hs11, hBp, hOp, hpl, hgl2⟩ := h6'
  obtain ⟨pq, cq9, hs12, hBq, hOq, hql, hgl3⟩ := h7'
  have hpq : pp ≠ pq := fun e => hpp (by rw [hs11, hs12, e])
  have hb : Below w2.heap.size w2 W := hT
  clear hpp hT
  simp [setAll, hs11, hs12]
  clear hs11 hs12
  generalize s 26 = s26
  generalize s 27 = s27
  generalize s 28 = s28
  generalize s 29 = s29
  have hy5 : w.heap.size + 1 + 1 + 1 + 1 < w2.heap.size := Hm2.out.lt
  have HNe := Lib.hid (show gp ≠ gq ∧ pp ≠ pq ∧ w.heap.size + 1 + 1 + 1 + 1 < pp ∧ w.heap.size + 1 + 1 + 1 + 1 < pq ∧ w.heap.size + 1 + 1 + 1 + 1 < gp ∧ w.heap.size + 1 + 1 + 1 + 1 < gq from by refine ⟨hgpq, hpq, by omega, by omega, by omega, by omega⟩)
  clear hy5 hpq hgpq hpl hgl2 hql hgl3
  generalize hW6 : W = w6 at *
  clear hW6
  have Hi3 := Lib.hid (Hi2.out.nxt hb)
  have Hj3 := Lib.hid (Hj2.out.nxt hb)
  have Hx3 := Lib.hid (Hx2.out.nxt hb)
  have Hy3 := Lib.hid (Hy2.out.nxt hb)
  have Hm3 := Lib.hid (Hm2.out.nxt hb)
  have HB3 := Lib.hid (below_nx HB2.out hb)
  clear hb
  clear i0 i1 i2 j0 j1 j2 x0 x1 x2 x3 x4 y0 y1 y2 y3 y4 m0 m1 m2 m3 m4
  obtain ⟨i0, i1, i2⟩ := cells3v Hi3.out
  obtain ⟨j0, j1, j2⟩ := cells3v Hj3.out
  obtain ⟨x0, x1, x2, x3, x4⟩ := cells5 Hx3.out
  obtain ⟨y0, y1, y2, y3, y4⟩ := cells5 Hy3.out
  obtain ⟨m0, m1, m2, m3, m4⟩ := cells5 Hm3.out
  clear Hi2 Hj2 Hx2 Hy2 Hm2 HB2
  have Hp3 := Lib.hid hBp
  have Hq3 := Lib.hid hBq
  have Hu3 := Lib.hid hOp
  have Hv3 := Lib.hid hOq
  clear hBp hBq hOp hOq
  clear i0 i1 i2 j0 j1 j2 x0 x1 x2 x3 x4 y0 y1 y2 y3 y4 m0 m1 m2 m3 m4
  clear HApm HGr
  obtain ⟨i0, i1, i2⟩ := cells3v Hi3.out
  obtain ⟨j0, j1, j2⟩ := cells3v Hj3.out
  obtain ⟨x0, x1, x2, x3, x4⟩ := cells5 Hx3.out
  obtain ⟨y0, y1, y2, y3, y4⟩ := cells5 Hy3.out
  obtain ⟨m0, m1, m2, m3, m4⟩ := cells5 Hm3.out
  obtain ⟨p0, p1, p2, p3, p4⟩ := cells5 Hp3.out
  obtain ⟨q0, q1, q2, q3, q4⟩ := cells5 Hq3.out
  obtain ⟨en0, wn0, vn0, un0, rn0⟩ := Wn0.out
  obtain ⟨en1, wn1, vn1, un1, rn1⟩ := Wn1.out
  obtain ⟨en2, wn2, vn2, un2, rn2⟩ := Wn2.out
  go_wp2_with fail
  clear en0 wn0 vn0 un0 rn0 Wn0 en1 wn1 vn1 un1 rn1 Wn1 en2 wn2 vn2 un2 rn2 Wn2
  refine (HPr.out n0 n1 n2 HbN.out.1 HbN.out.2.1 HbN.out.2.2.1 _ gp cp9 HB3.out (by have := HNe.out; omega) Hu3.out).mono ?_
  rintro e w8 ⟨rfl, l1, ho1, hi1, hc⟩
  have Hi4 := Lib.hid (hc.blk (fun h => own_ne Hu3.out Hi3.out (by decide) (List.mem_singleton.1 h).symm) Hi3.out)
  have Hj4 := Lib.hid (hc.blk (fun h => own_ne Hu3.out Hj3.out (by decide) (List.mem_singleton.1 h).symm) Hj3.out)
  have Hx4 := Lib.hid (hc.blk (fun h => own_ne Hu3.out Hx3.out (by decide) (List.mem_singleton.1 h).symm) Hx3.out)
  have Hy4 := Lib.hid (hc.blk (fun h => own_ne Hu3.out Hy3.out (by decide) (List.mem_singleton.1 h).symm) Hy3.out)
  have Hm4 := Lib.hid (hc.blk (fun h => own_ne Hu3.out Hm3.out (by decide) (List.mem_singleton.1 h).symm) Hm3.out)
  have Hp4 := Lib.hid (hc.blk (fun h => own_ne Hu3.out Hp3.out (by decide) (List.mem_singleton.1 h).symm) Hp3.out)
  have Hq4 := Lib.hid (hc.blk (fun h => own_ne Hu3.out Hq3.out (by decide) (List.mem_singleton.1 h).symm) Hq3.out)
  have Hu4 := Lib.hid ho1
  have HI1 := Lib.hid hi1
  have Hv4 := Lib.hid (hc.own (fun h => (fun e => HNe.out.1 e.symm) (List.mem_singleton.1 h)) Hv3.out)
  have HB4 := Lib.hid (hc.below HB3.out HB3.out.size (fun x hx => by have := HNe.out; simp at hx; omega))
  clear ho1 hi1 hc
  clear Hi3 Hj3 Hx3 Hy3 Hm3 Hp3 Hq3 Hu3 Hv3 HB3
  clear i0 i1 i2 j0 j1 j2 x0 x1 x2 x3 x4 y0 y1 y2 y3 y4 m0 m1 m2 m3 m4 p0 p1 p2 p3 p4 q0 q1 q2 q3 q4
  obtain ⟨i0, i1, i2⟩ := cells3v Hi4.out
  obtain ⟨j0, j1, j2⟩ := cells3v Hj4.out
  obtain ⟨x0, x1, x2, x3, x4⟩ := cells5 Hx4.out
  obtain ⟨y0, y1, y2, y3, y4⟩ := cells5 Hy4.out
  obtain ⟨m0, m1, m2, m3, m4⟩ := cells5 Hm4.out
  obtain ⟨p0, p1, p2, p3, p4⟩ := cells5 Hp4.out
  obtain ⟨q0, q1, q2, q3, q4⟩ := cells5 Hq4.out
  obtain ⟨en3, wn3, vn3, un3, rn3⟩ := Wn3.out
  obtain ⟨en4, wn4, vn4, un4, rn4⟩ := Wn4.out
  obtain ⟨en5, wn5, vn5, un5, rn5⟩ := Wn5.out
  go_wp2_with fail
  clear en3 wn3 vn3 un3 rn3 Wn3 en4 wn4 vn4 un4 rn4 Wn4 en5 wn5 vn5 un5 rn5 Wn5
  refine (HPr.out n3 n4 n5 HbN.out.2.2.2.1 HbN.out.2.2.2.2.1 HbN.out.2.2.2.2.2 _ gq cq9 HB4.out (by have := HNe.out; omega) Hv4.out).mono ?_
  rintro e w9 ⟨rfl, l2, ho1, hi1, hc⟩
  have Hi5 := Lib.hid (hc.blk (fun h => own_ne Hv4.out Hi4.out (by decide) (List.mem_singleton.1 h).symm) Hi4.out)
  have Hj5 := Lib.hid (hc.blk (fun h => own_ne Hv4.out Hj4.out (by decide) (List.mem_singleton.1 h).symm) Hj4.out)
  have Hx5 := Lib.hid (hc.blk (fun h => own_ne Hv4.out Hx4.out (by decide) (List.mem_singleton.1 h).symm) Hx4.out)
  have Hy5 := Lib.hid (hc.blk (fun h => own_ne Hv4.out Hy4.out (by decide) (List.mem_singleton.1 h).symm) Hy4.out)
  have Hm5 := Lib.hid (hc.blk (fun h => own_ne Hv4.out Hm4.out (by decide) (List.mem_singleton.1 h).symm) Hm4.out)
  have Hp5 := Lib.hid (hc.blk (fun h => own_ne Hv4.out Hp4.out (by decide) (List.mem_singleton.1 h).symm) Hp4.out)
  have Hq5 := Lib.hid (hc.blk (fun h => own_ne Hv4.out Hq4.out (by decide) (List.mem_singleton.1 h).symm) Hq4.out)
  have Hv5 := Lib.hid ho1
  have HI2 := Lib.hid hi1
  have Hu5 := Lib.hid (hc.own (fun h => (fun e => HNe.out.1 e) (List.mem_singleton.1 h)) Hu4.out)
  have HB5 := Lib.hid (hc.below HB4.out HB4.out.size (fun x hx => by have := HNe.out; simp at hx; omega))
  clear ho1 hi1 hc
  clear Hi4 Hj4 Hx4 Hy4 Hm4 Hp4 Hq4 Hu4 Hv4 HB4
  clear i0 i1 i2 j0 j1 j2 x0 x1 x2 x3 x4 y0 y1 y2 y3 y4 m0 m1 m2 m3 m4 p0 p1 p2 p3 p4 q0 q1 q2 q3 q4
  obtain ⟨i0, i1, i2⟩ := cells3v Hi5.out
  obtain ⟨j0, j1, j2⟩ := cells3v Hj5.out
  obtain ⟨x0, x1, x2, x3, x4⟩ := cells5 Hx5.out
  obtain ⟨y0, y1, y2, y3, y4⟩ := cells5 Hy5.out
  obtain ⟨m0, m1, m2, m3, m4⟩ := cells5 Hm5.out
  obtain ⟨p0, p1, p2, p3, p4⟩ := cells5 Hp5.out
  obtain ⟨q0, q1, q2, q3, q4⟩ := cells5 Hq5.out
  go_wp2_with fail
  refine (HAll.out _ _ _ _ _ _ _ HI1.out HI2.out Hu5.out.row Hv5.out.row).mono ?_
  rintro e wa ⟨rfl, hb⟩
  have Hi6 := Lib.hid (Hi5.out.nxt hb)
  have Hj6 := Lib.hid (Hj5.out.nxt hb)
  have Hx6 := Lib.hid (Hx5.out.nxt hb)
  have Hy6 := Lib.hid (Hy5.out.nxt hb)
  have Hm6 := Lib.hid (Hm5.out.nxt hb)
  have Hp6 := Lib.hid (Hp5.out.nxt hb)
  have Hq6 := Lib.hid (Hq5.out.nxt hb)
  have Hu6 := Lib.hid (Hu5.out.nxt hb)
  have Hv6 := Lib.hid (Hv5.out.nxt hb)
  have HB6 := Lib.hid (below_nx HB5.out hb)
  clear hb
  clear i0 i1 i2 j0 j1 j2 x0 x1 x2 x3 x4 y0 y1 y2 y3 y4 m0 m1 m2 m3 m4 p0 p1 p2 p3 p4 q0 q1 q2 q3 q4
  obtain ⟨i0, i1, i2⟩ := cells3v Hi6.out
  obtain ⟨j0, j1, j2⟩ := cells3v Hj6.out
  obtain ⟨x0, x1, x2, x3, x4⟩ := cells5 Hx6.out
  obtain ⟨y0, y1, y2, y3, y4⟩ := cells5 Hy6.out
  obtain ⟨m0, m1, m2, m3, m4⟩ := cells5 Hm6.out
  obtain ⟨p0, p1, p2, p3, p4⟩ := cells5 Hp6.out
  obtain ⟨q0, q1, q2, q3, q4⟩ := cells5 Hq6.out
  clear Hi5 Hj5 Hx5 Hy5 Hm5 Hp5 Hq5 Hu5 Hv5 HB5
  go_wp2_with fail
  refine (awake13_any _).mono ?_
  rintro e wb ⟨rfl, hb⟩
  have Hi7 := Lib.hid (Hi6.out.nxt hb)
  have Hj7 := Lib.hid (Hj6.out.nxt hb)
  have Hx7 := Lib.hid (Hx6.out.nxt hb)
  have Hy7 := Lib.hid (Hy6.out.nxt hb)
  have Hm7 := Lib.hid (Hm6.out.nxt hb)
  have Hp7 := Lib.hid (Hp6.out.nxt hb)
  have Hq7 := Lib.hid (Hq6.out.nxt hb)
  have Hu7 := Lib.hid (Hu6.out.nxt hb)
  have Hv7 := Lib.hid (Hv6.out.nxt hb)
  have HB7 := Lib.hid (below_nx HB6.out hb)
  clear hb
  clear i0 i1 i2 j0 j1 j2 x0 x1 x2 x3 x4 y0 y1 y2 y3 y4 m0 m1 m2 m3 m4 p0 p1 p2 p3 p4 q0 q1 q2 q3 q4
  obtain ⟨i0, i1, i2⟩ := cells3v Hi7.out
  obtain ⟨j0, j1, j2⟩ := cells3v Hj7.out
  obtain ⟨x0, x1, x2, x3, x4⟩ := cells5 Hx7.out
  obtain ⟨y0, y1, y2, y3, y4⟩ := cells5 Hy7.out
  obtain ⟨m0, m1, m2, m3, m4⟩ := cells5 Hm7.out
  obtain ⟨p0, p1, p2, p3, p4⟩ := cells5 Hp7.out
  obtain ⟨q0, q1, q2, q3, q4⟩ := cells5 Hq7.out
  clear Hi6 Hj6 Hx6 Hy6 Hm6 Hp6 Hq6 Hu6 Hv6 HB6
  go_wp2_with fail
  go_ret
  exact ⟨rfl, HB7.out⟩

end Go.Proofs.Ytbeefnekblepfaa
