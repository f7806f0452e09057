/-
BlockAlike, put together. Conditions: as each says.
-/
import Derived.Test.YtbeefnekblepfaaZBkW
import Derived.Test.YtbeefnekblepfaaZVwQ
set_option linter.unusedVariables false
set_option linter.unusedSimpArgs false
set_option linter.unnecessarySimpa false
namespace Go.Proofs.Ytbeefnekblepfaa
open Go.RowKit
attribute [local go_sem ↓] Go.wp_at_zero Go.wp_at_succ

theorem far_arg {w : World} {A : Option Addr} {l : List Nat} (hA : Row w A (f64s l)) (hfz : ∀ b o, A = some ⟨b, o, none⟩ → l ≠ [] → w.frozen? ⟨b, o, none⟩ = false) : ∀ W g, Below w.heap.size w W → w.heap.size ≤ g → FarM W A l g := fun W g hb hg => by
  have hlt : ∀ p q, A = some ⟨p, q, none⟩ → l ≠ [] → p < w.heap.size := fun p q e hl => by
    have h0 : 0 < l.length := List.length_pos_iff.2 hl
    obtain ⟨b', o', e', hlt, _⟩ := hA.at_ (f64s_get l 0 h0)
    rw [e] at e'
    injection e' with e'
    injection e' with e1 e2
    subst e1
    exact hlt
  exact ⟨hA.below hb, fun p q e hl => (hb.frozen (p := ⟨p, q, none⟩) (hlt p q e hl)).trans (hfz p q e hl), fun p q e hl => by have := hlt p q e hl; omega⟩

set_option maxRecDepth 100000 in
set_option maxHeartbeats 4000000 in
theorem blockAlike_great (y0 y1 y2 t0 t1 t2 : Nat) (a b : Nat) (Ax : Option Addr) (nx cx : Nat) (xo xr xk xl : Int) (Ay : Option Addr) (ny cy : Nat) (yo yr yk yl : Int) (Am : Option Addr) (nm cm : Nat) (mo mr mk ml : Int) (w : World) (h : (greatB nx xr xk || greatB ny yr yk || greatB nm mr mk) = true) :
    Calls Try.prog 4 #[.agg #[.int .u8 (y0 : Int), .int .u8 (y1 : Int), .int .u8 (y2 : Int)], .agg #[.int .u8 (t0 : Int), .int .u8 (t1 : Int), .int .u8 (t2 : Int)], .float .f64 a, mat Ax nx cx xo xr xk xl, mat Ay ny cy yo yr yk yl, .float .f64 b, mat Am nm cm mo mr mk ml] w fun e w' => e = .returned (.bool true) ∧ Below w.heap.size w w' := by
  have HGr := Lib.hid (fun W => bgreat_any Ax nx cx xo xr xk xl Ay ny cy yo yr yk yl Am nm cm mo mr mk ml W)
  rw [h] at HGr
  clear h
  unfold mat at *
  go_enter Try.func4, Try.ntmps4
  have Hi0 := Lib.hid (((((Blk.new w 43 #[.int .u8 (y0 : Int), .int .u8 (y1 : Int), .int .u8 (y2 : Int)]).alloc (.cells #[.int .u8 (t0 : Int), .int .u8 (t1 : Int), .int .u8 (t2 : Int)] 43)).alloc (.cells #[.slice Ax nx cx, .int .i64 xo, .int .i64 xr, .int .i64 xk, .int .i64 xl] 26)).alloc (.cells #[.slice Ay ny cy, .int .i64 yo, .int .i64 yr, .int .i64 yk, .int .i64 yl] 26)).alloc (.cells #[.slice Am nm cm, .int .i64 mo, .int .i64 mr, .int .i64 mk, .int .i64 ml] 26))
  have Hj0 := Lib.hid ((((Blk.new_ (w.alloc (.cells #[.int .u8 (y0 : Int), .int .u8 (y1 : Int), .int .u8 (y2 : Int)] 43)) 43 #[.int .u8 (t0 : Int), .int .u8 (t1 : Int), .int .u8 (t2 : Int)] (w.heap.size + 1) (by simp)).alloc (.cells #[.slice Ax nx cx, .int .i64 xo, .int .i64 xr, .int .i64 xk, .int .i64 xl] 26)).alloc (.cells #[.slice Ay ny cy, .int .i64 yo, .int .i64 yr, .int .i64 yk, .int .i64 yl] 26)).alloc (.cells #[.slice Am nm cm, .int .i64 mo, .int .i64 mr, .int .i64 mk, .int .i64 ml] 26))
  have Hx0 := Lib.hid (((Blk.new_ ((w.alloc (.cells #[.int .u8 (y0 : Int), .int .u8 (y1 : Int), .int .u8 (y2 : Int)] 43)).alloc (.cells #[.int .u8 (t0 : Int), .int .u8 (t1 : Int), .int .u8 (t2 : Int)] 43)) 26 #[.slice Ax nx cx, .int .i64 xo, .int .i64 xr, .int .i64 xk, .int .i64 xl] (w.heap.size + 1 + 1) (by simp)).alloc (.cells #[.slice Ay ny cy, .int .i64 yo, .int .i64 yr, .int .i64 yk, .int .i64 yl] 26)).alloc (.cells #[.slice Am nm cm, .int .i64 mo, .int .i64 mr, .int .i64 mk, .int .i64 ml] 26))
  have Hy0 := Lib.hid ((Blk.new_ (((w.alloc (.cells #[.int .u8 (y0 : Int), .int .u8 (y1 : Int), .int .u8 (y2 : Int)] 43)).alloc (.cells #[.int .u8 (t0 : Int), .int .u8 (t1 : Int), .int .u8 (t2 : Int)] 43)).alloc (.cells #[.slice Ax nx cx, .int .i64 xo, .int .i64 xr, .int .i64 xk, .int .i64 xl] 26)) 26 #[.slice Ay ny cy, .int .i64 yo, .int .i64 yr, .int .i64 yk, .int .i64 yl] (w.heap.size + 1 + 1 + 1) (by simp)).alloc (.cells #[.slice Am nm cm, .int .i64 mo, .int .i64 mr, .int .i64 mk, .int .i64 ml] 26))
  have Hm0 := Lib.hid (Blk.new_ ((((w.alloc (.cells #[.int .u8 (y0 : Int), .int .u8 (y1 : Int), .int .u8 (y2 : Int)] 43)).alloc (.cells #[.int .u8 (t0 : Int), .int .u8 (t1 : Int), .int .u8 (t2 : Int)] 43)).alloc (.cells #[.slice Ax nx cx, .int .i64 xo, .int .i64 xr, .int .i64 xk, .int .i64 xl] 26)).alloc (.cells #[.slice Ay ny cy, .int .i64 yo, .int .i64 yr, .int .i64 yk, .int .i64 yl] 26)) 26 #[.slice Am nm cm, .int .i64 mo, .int .i64 mr, .int .i64 mk, .int .i64 ml] (w.heap.size + 1 + 1 + 1 + 1) (by simp))
  have HB0 := Lib.hid ((((((Below.refl w.heap.size w).alloc (Nat.le_refl _) (.cells #[.int .u8 (y0 : Int), .int .u8 (y1 : Int), .int .u8 (y2 : Int)] 43)).alloc (by simp) (.cells #[.int .u8 (t0 : Int), .int .u8 (t1 : Int), .int .u8 (t2 : Int)] 43)).alloc (by simp; omega) (.cells #[.slice Ax nx cx, .int .i64 xo, .int .i64 xr, .int .i64 xk, .int .i64 xl] 26)).alloc (by simp; omega) (.cells #[.slice Ay ny cy, .int .i64 yo, .int .i64 yr, .int .i64 yk, .int .i64 yl] 26)).alloc (by simp; omega) (.cells #[.slice Am nm cm, .int .i64 mo, .int .i64 mr, .int .i64 mk, .int .i64 ml] 26))
  obtain ⟨i0, i1, i2⟩ := cells3v Hi0.out
  obtain ⟨j0, j1, j2⟩ := cells3v Hj0.out
  obtain ⟨x0, x1, x2, x3, x4⟩ := cells5 Hx0.out
  obtain ⟨y0, y1, y2, y3, y4⟩ := cells5 Hy0.out
  obtain ⟨m0, m1, m2, m3, m4⟩ := cells5 Hm0.out
  go_wp2_with fail
  refine (awake13_any _).mono ?_
  rintro e w1 ⟨rfl, hb⟩
  have Hi1 := Lib.hid (Hi0.out.nxt hb)
  have Hj1 := Lib.hid (Hj0.out.nxt hb)
  have Hx1 := Lib.hid (Hx0.out.nxt hb)
  have Hy1 := Lib.hid (Hy0.out.nxt hb)
  have Hm1 := Lib.hid (Hm0.out.nxt hb)
  have HB1 := Lib.hid (below_nx HB0.out hb)
  clear hb
  clear i0 i1 i2 j0 j1 j2 x0 x1 x2 x3 x4 y0 y1 y2 y3 y4 m0 m1 m2 m3 m4
  obtain ⟨i0, i1, i2⟩ := cells3v Hi1.out
  obtain ⟨j0, j1, j2⟩ := cells3v Hj1.out
  obtain ⟨x0, x1, x2, x3, x4⟩ := cells5 Hx1.out
  obtain ⟨y0, y1, y2, y3, y4⟩ := cells5 Hy1.out
  obtain ⟨m0, m1, m2, m3, m4⟩ := cells5 Hm1.out
  go_wp2_with fail
  refine (HGr.out _).mono ?_
  rintro e w2 ⟨rfl, hb⟩
  have Hi2 := Lib.hid (Hi1.out.nxt hb)
  have Hj2 := Lib.hid (Hj1.out.nxt hb)
  have Hx2 := Lib.hid (Hx1.out.nxt hb)
  have Hy2 := Lib.hid (Hy1.out.nxt hb)
  have Hm2 := Lib.hid (Hm1.out.nxt hb)
  have HB2 := Lib.hid (below_nx HB1.out hb)
  clear hb
  clear i0 i1 i2 j0 j1 j2 x0 x1 x2 x3 x4 y0 y1 y2 y3 y4 m0 m1 m2 m3 m4
  obtain ⟨i0, i1, i2⟩ := cells3v Hi2.out
  obtain ⟨j0, j1, j2⟩ := cells3v Hj2.out
  obtain ⟨x0, x1, x2, x3, x4⟩ := cells5 Hx2.out
  obtain ⟨y0, y1, y2, y3, y4⟩ := cells5 Hy2.out
  obtain ⟨m0, m1, m2, m3, m4⟩ := cells5 Hm2.out
  go_wp2_with fail
  refine (awake13_any _).mono ?_
  rintro e w5 ⟨rfl, hb⟩
  have Hi3 := Lib.hid (Hi2.out.nxt hb)
  have Hj3 := Lib.hid (Hj2.out.nxt hb)
  have Hx3 := Lib.hid (Hx2.out.nxt hb)
  have Hy3 := Lib.hid (Hy2.out.nxt hb)
  have Hm3 := Lib.hid (Hm2.out.nxt hb)
  have HB3 := Lib.hid (below_nx HB2.out hb)
  clear hb
  clear i0 i1 i2 j0 j1 j2 x0 x1 x2 x3 x4 y0 y1 y2 y3 y4 m0 m1 m2 m3 m4
  obtain ⟨i0, i1, i2⟩ := cells3v Hi3.out
  obtain ⟨j0, j1, j2⟩ := cells3v Hj3.out
  obtain ⟨x0, x1, x2, x3, x4⟩ := cells5 Hx3.out
  obtain ⟨y0, y1, y2, y3, y4⟩ := cells5 Hy3.out
  obtain ⟨m0, m1, m2, m3, m4⟩ := cells5 Hm3.out
  go_wp2_with fail
  go_ret
  exact ⟨rfl, HB3.out⟩

theorem blockAlike_walk (y0 y1 y2 t0 t1 t2 : Nat) (a : Nat) (Ax : Option Addr) (cx : Nat) (lx : List Nat) (xo xr xk xl : Int) (Ay : Option Addr) (cy : Nat) (ly : List Nat) (yo yr yk yl : Int) (b : Nat) (Am : Option Addr) (cm : Nat) (lm : List Nat) (mo mr mk ml : Int) (w : World) (hy0 : y0 < 256) (hy1 : y1 < 256) (hy2 : y2 < 256) (ht0 : t0 < 256) (ht1 : t1 < 256) (ht2 : t2 < 256) (ha : a < 18446744073709551616) (hb : b < 18446744073709551616)
    (hAx : Row w Ax (f64s lx)) (hfx : ∀ b o, Ax = some ⟨b, o, none⟩ → lx ≠ [] → w.frozen? ⟨b, o, none⟩ = false) (hWx : Wds lx) (hxo : I64 xo) (hxr : I64 xr) (hxk : I64 xk) (hxl : I64 xl) (hAy : Row w Ay (f64s ly)) (hfy : ∀ b o, Ay = some ⟨b, o, none⟩ → ly ≠ [] → w.frozen? ⟨b, o, none⟩ = false) (hWy : Wds ly) (hyo : I64 yo) (hyr : I64 yr) (hyk : I64 yk) (hyl : I64 yl) (hAm : Row w Am (f64s lm)) (hWm : Wds lm) (hmo : I64 mo) (hmr : I64 mr) (hmk : I64 mk) (hml : I64 ml) :
    Calls Try.prog 4 #[.agg #[.int .u8 (y0 : Int), .int .u8 (y1 : Int), .int .u8 (y2 : Int)], .agg #[.int .u8 (t0 : Int), .int .u8 (t1 : Int), .int .u8 (t2 : Int)], .float .f64 a, mat Ax lx.length cx xo xr xk xl, mat Ay ly.length cy yo yr yk yl, .float .f64 b, mat Am lm.length cm mo mr mk ml] w fun e w' => e = .returned (.bool true) ∧ Below w.heap.size w w' := by
  cases hG : (greatB lx.length xr xk || greatB ly.length yr yk || greatB lm.length mr mk)
  · have hG2 := hG
    simp only [Bool.or_eq_false_iff] at hG2
    have q1 : lx.length ≤ 1000 ∧ xr ≤ 20 ∧ xk ≤ 20 := by have h := hG2.1.1; unfold greatB at h; simp at h; omega
    have q2 : ly.length ≤ 1000 ∧ yr ≤ 20 ∧ yk ≤ 20 := by have h := hG2.1.2; unfold greatB at h; simp at h; omega
    have q3 : lm.length ≤ 1000 ∧ mr ≤ 20 ∧ mk ≤ 20 := by have h := hG2.2; unfold greatB at h; simp at h; omega
    cases h : (matB lx.length xo xr xk xl && matB ly.length yo yr yk yl && matB lm.length mo mr mk ml)
    · exact blockAlike_err y0 y1 y2 t0 t1 t2 a b Ax _ cx lx xo xr xk xl Ay _ cy ly yo yr yk yl Am _ cm lm mo mr mk ml 1 w hy0 hy1 hy2 ht0 ht1 ht2 (far_arg hAx hfx) (far_arg hAy hfy) hAm hWx hWy hWm rfl rfl rfl q1.1 q2.1 q3.1 hG hxo hxr hxk hxl hyo hyr hyk hyl hmo hmr hmk hml (by omega) (by rw [h]; rfl) (fun e => by rw [h] at e; cases e)
    by_cases hs : xk = yr ∧ mr = xr ∧ mk = yk
    · have h2 := h
      simp only [Bool.and_eq_true] at h2
      obtain ⟨⟨g1, g2⟩, g3⟩ := h2
      obtain ⟨o, R, C, L, rfl, rfl, rfl, rfl, hLm, hRLm, hrm⟩ := mat_nat g3
      obtain ⟨ox, R2, K, Lx, rfl, rfl, rfl, rfl, hLx, hRLx, hrx⟩ := mat_nat g1
      obtain ⟨oy, K2, C2, Ly, rfl, rfl, rfl, rfl, hLy, hRLy, hry⟩ := mat_nat g2
      obtain ⟨u1, u2, u3⟩ := hs
      have u1 : K = K2 := by omega
      have u2 : R = R2 := by omega
      have u3 : C = C2 := by omega
      subst u1
      subst u2
      subst u3
      exact blockAlike_ok y0 y1 y2 t0 t1 t2 a b Ax _ cx lx Ay _ cy ly Am _ cm lm ox Lx oy Ly o L R K C w hy0 hy1 hy2 ht0 ht1 ht2 (far_arg hAx hfx) (far_arg hAy hfy) hAm hWx hWy hWm rfl rfl rfl q1.1 q2.1 q3.1 hG ha hb (by omega) (by omega) (by omega) hxo hxl hLx hRLx hrx hyo hyl hLy hRLy hry hmo hml hLm hRLm hrm
    · have hq : ((xk != yr) || (mr != xr) || (mk != yk)) = true := by
        by_cases e : xk = yr
        · by_cases e2 : mr = xr
          · have e3 : ¬ mk = yk := fun e3 => hs ⟨e, e2, e3⟩
            simp [e3]
          · simp [e2]
        · simp [e]
      exact blockAlike_err y0 y1 y2 t0 t1 t2 a b Ax _ cx lx xo xr xk xl Ay _ cy ly yo yr yk yl Am _ cm lm mo mr mk ml 3 w hy0 hy1 hy2 ht0 ht1 ht2 (far_arg hAx hfx) (far_arg hAy hfy) hAm hWx hWy hWm rfl rfl rfl q1.1 q2.1 q3.1 hG hxo hxr hxk hxl hyo hyr hyk hyl hmo hmr hmk hml (by omega) (by rw [h]; rfl) (fun _ => hq)
  · exact blockAlike_great y0 y1 y2 t0 t1 t2 a b Ax _ cx xo xr xk xl Ay _ cy yo yr yk yl Am _ cm mo mr mk ml w hG
end Go.Proofs.Ytbeefnekblepfaa
