/-
Gemm: what fits; why not. Conditions: as each says.
-/
import Derived.Test.YtbeefnekblepfaaUaaf
import Derived.Test.YtbeefnekblepfaaUaak
import Derived.Test.YtbeefnekblepfaaUaal
set_option linter.unusedVariables false
set_option linter.unusedSimpArgs false
set_option linter.unnecessarySimpa false
namespace Go.Proofs.Ytbeefnekblepfaa
open Go.RowKit
attribute [local go_sem ↓] Go.wp_at_zero Go.wp_at_succ

set_option maxHeartbeats 2000000 in
theorem gefits_bad (Ax : Option Addr) (nx cx : Nat) (xo xr xk xl : Int) (Ay : Option Addr) (ny cy : Nat) (yo yr yk yl : Int) (Az : Option Addr) (nz cz : Nat) (zo zr zk zl : Int) (w : World) (hnx : nx < 9223372036854775808) (hxo : I64 xo) (hxr : I64 xr) (hxk : I64 xk) (hxl : I64 xl) (hny : ny < 9223372036854775808) (hyo : I64 yo) (hyr : I64 yr) (hyk : I64 yk) (hyl : I64 yl) (hnz : nz < 9223372036854775808) (hzo : I64 zo) (hzr : I64 zr) (hzk : I64 zk) (hzl : I64 zl) (h : (matB nx xo xr xk xl && matB ny yo yr yk yl && matB nz zo zr zk zl) = false) :
    Calls Try.prog 43 #[mat Ax nx cx xo xr xk xl, mat Ay ny cy yo yr yk yl, mat Az nz cz zo zr zk zl] w fun e w' => e = .returned (.int .i64 1) ∧ Below w.heap.size w w' := by
  have HGx := Lib.hid (fun W => good_any Ax nx cx xo xr xk xl W hnx hxo hxr hxk hxl)
  have HGy := Lib.hid (fun W => good_any Ay ny cy yo yr yk yl W hny hyo hyr hyk hyl)
  have HGz := Lib.hid (fun W => good_any Az nz cz zo zr zk zl W hnz hzo hzr hzk hzl)
  generalize matB nx xo xr xk xl = b1 at *
  generalize matB ny yo yr yk yl = b2 at *
  generalize matB nz zo zr zk zl = b3 at *
  clear hnx hxo hxr hxk hxl hny hyo hyr hyk hyl hnz hzo hzr hzk hzl
  cases b1
  · clear h
    unfold mat at *
    go_enter Try.func43, Try.ntmps43
    have Hx0 := Lib.hid (((Blk.new w 26 #[.slice Ax nx cx, .int .i64 xo, .int .i64 xr, .int .i64 xk, .int .i64 xl]).alloc (.cells #[.slice Ay ny cy, .int .i64 yo, .int .i64 yr, .int .i64 yk, .int .i64 yl] 26)).alloc (.cells #[.slice Az nz cz, .int .i64 zo, .int .i64 zr, .int .i64 zk, .int .i64 zl] 26))
    have Hy0 := Lib.hid ((Blk.new_ (w.alloc (.cells #[.slice Ax nx cx, .int .i64 xo, .int .i64 xr, .int .i64 xk, .int .i64 xl] 26)) 26 #[.slice Ay ny cy, .int .i64 yo, .int .i64 yr, .int .i64 yk, .int .i64 yl] (w.heap.size + 1) (by simp)).alloc (.cells #[.slice Az nz cz, .int .i64 zo, .int .i64 zr, .int .i64 zk, .int .i64 zl] 26))
    have Hz0 := Lib.hid (Blk.new_ ((w.alloc (.cells #[.slice Ax nx cx, .int .i64 xo, .int .i64 xr, .int .i64 xk, .int .i64 xl] 26)).alloc (.cells #[.slice Ay ny cy, .int .i64 yo, .int .i64 yr, .int .i64 yk, .int .i64 yl] 26)) 26 #[.slice Az nz cz, .int .i64 zo, .int .i64 zr, .int .i64 zk, .int .i64 zl] (w.heap.size + 1 + 1) (by simp))
    have HB0 := Lib.hid ((((Below.refl w.heap.size w).alloc (Nat.le_refl _) (.cells #[.slice Ax nx cx, .int .i64 xo, .int .i64 xr, .int .i64 xk, .int .i64 xl] 26)).alloc (by simp) (.cells #[.slice Ay ny cy, .int .i64 yo, .int .i64 yr, .int .i64 yk, .int .i64 yl] 26)).alloc (by simp; omega) (.cells #[.slice Az nz cz, .int .i64 zo, .int .i64 zr, .int .i64 zk, .int .i64 zl] 26))
    obtain ⟨x0, x1, x2, x3, x4⟩ := cells5 Hx0.out
    obtain ⟨y0, y1, y2, y3, y4⟩ := cells5 Hy0.out
    obtain ⟨z0, z1, z2, z3, z4⟩ := cells5 Hz0.out
    go_wp2_with fail
    refine (HGx.out _).mono ?_
    rintro e w1 ⟨rfl, hb⟩
    have Hx1 := Lib.hid (Hx0.out.nxt hb)
    have Hy1 := Lib.hid (Hy0.out.nxt hb)
    have Hz1 := Lib.hid (Hz0.out.nxt hb)
    have HB1 := Lib.hid (below_nx HB0.out hb)
    clear hb
    clear x0 x1 x2 x3 x4 y0 y1 y2 y3 y4 z0 z1 z2 z3 z4
    obtain ⟨x0, x1, x2, x3, x4⟩ := cells5 Hx1.out
    obtain ⟨y0, y1, y2, y3, y4⟩ := cells5 Hy1.out
    obtain ⟨z0, z1, z2, z3, z4⟩ := cells5 Hz1.out
    go_wp2_with fail
    go_ret
    exact ⟨rfl, HB1.out⟩
  · cases b2
    · clear h
      unfold mat at *
      go_enter Try.func43, Try.ntmps43
      have Hx0 := Lib.hid (((Blk.new w 26 #[.slice Ax nx cx, .int .i64 xo, .int .i64 xr, .int .i64 xk, .int .i64 xl]).alloc (.cells #[.slice Ay ny cy, .int .i64 yo, .int .i64 yr, .int .i64 yk, .int .i64 yl] 26)).alloc (.cells #[.slice Az nz cz, .int .i64 zo, .int .i64 zr, .int .i64 zk, .int .i64 zl] 26))
      have Hy0 := Lib.hid ((Blk.new_ (w.alloc (.cells #[.slice Ax nx cx, .int .i64 xo, .int .i64 xr, .int .i64 xk, .int .i64 xl] 26)) 26 #[.slice Ay ny cy, .int .i64 yo, .int .i64 yr, .int .i64 yk, .int .i64 yl] (w.heap.size + 1) (by simp)).alloc (.cells #[.slice Az nz cz, .int .i64 zo, .int .i64 zr, .int .i64 zk, .int .i64 zl] 26))
      have Hz0 := Lib.hid (Blk.new_ ((w.alloc (.cells #[.slice Ax nx cx, .int .i64 xo, .int .i64 xr, .int .i64 xk, .int .i64 xl] 26)).alloc (.cells #[.slice Ay ny cy, .int .i64 yo, .int .i64 yr, .int .i64 yk, .int .i64 yl] 26)) 26 #[.slice Az nz cz, .int .i64 zo, .int .i64 zr, .int .i64 zk, .int .i64 zl] (w.heap.size + 1 + 1) (by simp))
      have HB0 := Lib.hid ((((Below.refl w.heap.size w).alloc (Nat.le_refl _) (.cells #[.slice Ax nx cx, .int .i64 xo, .int .i64 xr, .int .i64 xk, .int .i64 xl] 26)).alloc (by simp) (.cells #[.slice Ay ny cy, .int .i64 yo, .int .i64 yr, .int .i64 yk, .int .i64 yl] 26)).alloc (by simp; omega) (.cells #[.slice Az nz cz, .int .i64 zo, .int .i64 zr, .int .i64 zk, .int .i64 zl] 26))
      obtain ⟨x0, x1, x2, x3, x4⟩ := cells5 Hx0.out
      obtain ⟨y0, y1, y2, y3, y4⟩ := cells5 Hy0.out
      obtain ⟨z0, z1, z2, z3, z4⟩ := cells5 Hz0.out
      go_wp2_with fail
      refine (HGx.out _).mono ?_
      rintro e w1 ⟨rfl, hb⟩
      have Hx1 := Lib.hid (Hx0.out.nxt hb)
      have Hy1 := Lib.hid (Hy0.out.nxt hb)
      have Hz1 := Lib.hid (Hz0.out.nxt hb)
      have HB1 := Lib.hid (below_nx HB0.out hb)
      clear hb
      clear x0 x1 x2 x3 x4 y0 y1 y2 y3 y4 z0 z1 z2 z3 z4
      obtain ⟨x0, x1, x2, x3, x4⟩ := cells5 Hx1.out
      obtain ⟨y0, y1, y2, y3, y4⟩ := cells5 Hy1.out
      obtain ⟨z0, z1, z2, z3, z4⟩ := cells5 Hz1.out
      go_wp2_with fail
      refine (HGy.out _).mono ?_
      rintro e w2 ⟨rfl, hb⟩
      have Hx2 := Lib.hid (Hx1.out.nxt hb)
      have Hy2 := Lib.hid (Hy1.out.nxt hb)
      have Hz2 := Lib.hid (Hz1.out.nxt hb)
      have HB2 := Lib.hid (below_nx HB1.out hb)
      clear hb
      clear x0 x1 x2 x3 x4 y0 y1 y2 y3 y4 z0 z1 z2 z3 z4
      obtain ⟨x0, x1, x2, x3, x4⟩ := cells5 Hx2.out
      obtain ⟨y0, y1, y2, y3, y4⟩ := cells5 Hy2.out
      obtain ⟨z0, z1, z2, z3, z4⟩ := cells5 Hz2.out
      go_wp2_with fail
      go_ret
      exact ⟨rfl, HB2.out⟩
    · have hb3 : b3 = false := by simpa using h
      subst hb3
      clear h
      unfold mat at *
      go_enter Try.func43, Try.ntmps43
      have Hx0 := Lib.hid (((Blk.new w 26 #[.slice Ax nx cx, .int .i64 xo, .int .i64 xr, .int .i64 xk, .int .i64 xl]).alloc (.cells #[.slice Ay ny cy, .int .i64 yo, .int .i64 yr, .int .i64 yk, .int .i64 yl] 26)).alloc (.cells #[.slice Az nz cz, .int .i64 zo, .int .i64 zr, .int .i64 zk, .int .i64 zl] 26))
      have Hy0 := Lib.hid ((Blk.new_ (w.alloc (.cells #[.slice Ax nx cx, .int .i64 xo, .int .i64 xr, .int .i64 xk, .int .i64 xl] 26)) 26 #[.slice Ay ny cy, .int .i64 yo, .int .i64 yr, .int .i64 yk, .int .i64 yl] (w.heap.size + 1) (by simp)).alloc (.cells #[.slice Az nz cz, .int .i64 zo, .int .i64 zr, .int .i64 zk, .int .i64 zl] 26))
      have Hz0 := Lib.hid (Blk.new_ ((w.alloc (.cells #[.slice Ax nx cx, .int .i64 xo, .int .i64 xr, .int .i64 xk, .int .i64 xl] 26)).alloc (.cells #[.slice Ay ny cy, .int .i64 yo, .int .i64 yr, .int .i64 yk, .int .i64 yl] 26)) 26 #[.slice Az nz cz, .int .i64 zo, .int .i64 zr, .int .i64 zk, .int .i64 zl] (w.heap.size + 1 + 1) (by simp))
      have HB0 := Lib.hid ((((Below.refl w.heap.size w).alloc (Nat.le_refl _) (.cells #[.slice Ax nx cx, .int .i64 xo, .int .i64 xr, .int .i64 xk, .int .i64 xl] 26)).alloc (by simp) (.cells #[.slice Ay ny cy, .int .i64 yo, .int .i64 yr, .int .i64 yk, .int .i64 yl] 26)).alloc (by simp; omega) (.cells #[.slice Az nz cz, .int .i64 zo, .int .i64 zr, .int .i64 zk, .int .i64 zl] 26))
      obtain ⟨x0, x1, x2, x3, x4⟩ := cells5 Hx0.out
      obtain ⟨y0, y1, y2, y3, y4⟩ := cells5 Hy0.out
      obtain ⟨z0, z1, z2, z3, z4⟩ := cells5 Hz0.out
      go_wp2_with fail
      refine (HGx.out _).mono ?_
      rintro e w1 ⟨rfl, hb⟩
      have Hx1 := Lib.hid (Hx0.out.nxt hb)
      have Hy1 := Lib.hid (Hy0.out.nxt hb)
      have Hz1 := Lib.hid (Hz0.out.nxt hb)
      have HB1 := Lib.hid (below_nx HB0.out hb)
      clear hb
      clear x0 x1 x2 x3 x4 y0 y1 y2 y3 y4 z0 z1 z2 z3 z4
      obtain ⟨x0, x1, x2, x3, x4⟩ := cells5 Hx1.out
      obtain ⟨y0, y1, y2, y3, y4⟩ := cells5 Hy1.out
      obtain ⟨z0, z1, z2, z3, z4⟩ := cells5 Hz1.out
      go_wp2_with fail
      refine (HGy.out _).mono ?_
      rintro e w2 ⟨rfl, hb⟩
      have Hx2 := Lib.hid (Hx1.out.nxt hb)
      have Hy2 := Lib.hid (Hy1.out.nxt hb)
      have Hz2 := Lib.hid (Hz1.out.nxt hb)
      have HB2 := Lib.hid (below_nx HB1.out hb)
      clear hb
      clear x0 x1 x2 x3 x4 y0 y1 y2 y3 y4 z0 z1 z2 z3 z4
      obtain ⟨x0, x1, x2, x3, x4⟩ := cells5 Hx2.out
      obtain ⟨y0, y1, y2, y3, y4⟩ := cells5 Hy2.out
      obtain ⟨z0, z1, z2, z3, z4⟩ := cells5 Hz2.out
      go_wp2_with fail
      refine (HGz.out _).mono ?_
      rintro e w3 ⟨rfl, hb⟩
      have Hx3 := Lib.hid (Hx2.out.nxt hb)
      have Hy3 := Lib.hid (Hy2.out.nxt hb)
      have Hz3 := Lib.hid (Hz2.out.nxt hb)
      have HB3 := Lib.hid (below_nx HB2.out hb)
      clear hb
      clear x0 x1 x2 x3 x4 y0 y1 y2 y3 y4 z0 z1 z2 z3 z4
      obtain ⟨x0, x1, x2, x3, x4⟩ := cells5 Hx3.out
      obtain ⟨y0, y1, y2, y3, y4⟩ := cells5 Hy3.out
      obtain ⟨z0, z1, z2, z3, z4⟩ := cells5 Hz3.out
      go_wp2_with fail
      go_ret
      exact ⟨rfl, HB3.out⟩

set_option maxHeartbeats 2000000 in
theorem gefits_size (Ax : Option Addr) (nx cx : Nat) (xo xr xk xl : Int) (Ay : Option Addr) (ny cy : Nat) (yo yr yk yl : Int) (Az : Option Addr) (nz cz : Nat) (zo zr zk zl : Int) (w : World) (hnx : nx < 9223372036854775808) (hxo : I64 xo) (hxr : I64 xr) (hxk : I64 xk) (hxl : I64 xl) (hny : ny < 9223372036854775808) (hyo : I64 yo) (hyr : I64 yr) (hyk : I64 yk) (hyl : I64 yl) (hnz : nz < 9223372036854775808) (hzo : I64 zo) (hzr : I64 zr) (hzk : I64 zk) (hzl : I64 zl) (h : (matB nx xo xr xk xl && matB ny yo yr yk yl && matB nz zo zr zk zl) = true) (b1 b2 b3 : Bool) (h1 : (xk != yr) = b1) (h2 : (zr != xr) = b2) (h3 : (zk != yk) = b3) (hbb : b1 = true ∨ (b1 = false ∧ b2 = true) ∨ (b1 = false ∧ b2 = false ∧ b3 = true)) :
    Calls Try.prog 43 #[mat Ax nx cx xo xr xk xl, mat Ay ny cy yo yr yk yl, mat Az nz cz zo zr zk zl] w fun e w' => e = .returned (.int .i64 3) ∧ Below w.heap.size w w' := by
  have HGx := Lib.hid (fun W => good_any Ax nx cx xo xr xk xl W hnx hxo hxr hxk hxl)
  have HGy := Lib.hid (fun W => good_any Ay ny cy yo yr yk yl W hny hyo hyr hyk hyl)
  have HGz := Lib.hid (fun W => good_any Az nz cz zo zr zk zl W hnz hzo hzr hzk hzl)
  simp only [Bool.and_eq_true] at h
  rw [h.1.1] at HGx
  rw [h.1.2] at HGy
  rw [h.2] at HGz
  clear h
  clear hnx hxo hxr hxk hxl hny hyo hyr hyk hyl hnz hzo hzr hzk hzl
  rcases hbb with rfl | ⟨rfl, rfl⟩ | ⟨rfl, rfl, rfl⟩
  · clear h2 h3
    unfold mat at *
    go_enter Try.func43, Try.ntmps43
    have Hx0 := Lib.hid (((Blk.new w 26 #[.slice Ax nx cx, .int .i64 xo, .int .i64 xr, .int .i64 xk, .int .i64 xl]).alloc (.cells #[.slice Ay ny cy, .int .i64 yo, .int .i64 yr, .int .i64 yk, .int .i64 yl] 26)).alloc (.cells #[.slice Az nz cz, .int .i64 zo, .int .i64 zr, .int .i64 zk, .int .i64 zl] 26))
    have Hy0 := Lib.hid ((Blk.new_ (w.alloc (.cells #[.slice Ax nx cx, .int .i64 xo, .int .i64 xr, .int .i64 xk, .int .i64 xl] 26)) 26 #[.slice Ay ny cy, .int .i64 yo, .int .i64 yr, .int .i64 yk, .int .i64 yl] (w.heap.size + 1) (by simp)).alloc (.cells #[.slice Az nz cz, .int .i64 zo, .int .i64 zr, .int .i64 zk, .int .i64 zl] 26))
    have Hz0 := Lib.hid (Blk.new_ ((w.alloc (.cells #[.slice Ax nx cx, .int .i64 xo, .int .i64 xr, .int .i64 xk, .int .i64 xl] 26)).alloc (.cells #[.slice Ay ny cy, .int .i64 yo, .int .i64 yr, .int .i64 yk, .int .i64 yl] 26)) 26 #[.slice Az nz cz, .int .i64 zo, .int .i64 zr, .int .i64 zk, .int .i64 zl] (w.heap.size + 1 + 1) (by simp))
    have HB0 := Lib.hid ((((Below.refl w.heap.size w).alloc (Nat.le_refl _) (.cells #[.slice Ax nx cx, .int .i64 xo, .int .i64 xr, .int .i64 xk, .int .i64 xl] 26)).alloc (by simp) (.cells #[.slice Ay ny cy, .int .i64 yo, .int .i64 yr, .int .i64 yk, .int .i64 yl] 26)).alloc (by simp; omega) (.cells #[.slice Az nz cz, .int .i64 zo, .int .i64 zr, .int .i64 zk, .int .i64 zl] 26))
    obtain ⟨x0, x1, x2, x3, x4⟩ := cells5 Hx0.out
    obtain ⟨y0, y1, y2, y3, y4⟩ := cells5 Hy0.out
    obtain ⟨z0, z1, z2, z3, z4⟩ := cells5 Hz0.out
    go_wp2_with fail
    refine (HGx.out _).mono ?_
    rintro e w1 ⟨rfl, hb⟩
    have Hx1 := Lib.hid (Hx0.out.nxt hb)
    have Hy1 := Lib.hid (Hy0.out.nxt hb)
    have Hz1 := Lib.hid (Hz0.out.nxt hb)
    have HB1 := Lib.hid (below_nx HB0.out hb)
    clear hb
    clear x0 x1 x2 x3 x4 y0 y1 y2 y3 y4 z0 z1 z2 z3 z4
    obtain ⟨x0, x1, x2, x3, x4⟩ := cells5 Hx1.out
    obtain ⟨y0, y1, y2, y3, y4⟩ := cells5 Hy1.out
    obtain ⟨z0, z1, z2, z3, z4⟩ := cells5 Hz1.out
    go_wp2_with fail
    refine (HGy.out _).mono ?_
    rintro e w2 ⟨rfl, hb⟩
    have Hx2 := Lib.hid (Hx1.out.nxt hb)
    have Hy2 := Lib.hid (Hy1.out.nxt hb)
    have Hz2 := Lib.hid (Hz1.out.nxt hb)
    have HB2 := Lib.hid (below_nx HB1.out hb)
    clear hb
    clear x0 x1 x2 x3 x4 y0 y1 y2 y3 y4 z0 z1 z2 z3 z4
    obtain ⟨x0, x1, x2, x3, x4⟩ := cells5 Hx2.out
    obtain ⟨y0, y1, y2, y3, y4⟩ := cells5 Hy2.out
    obtain ⟨z0, z1, z2, z3, z4⟩ := cells5 Hz2.out
    go_wp2_with fail
    refine (HGz.out _).mono ?_
    rintro e w3 ⟨rfl, hb⟩
    have Hx3 := Lib.hid (Hx2.out.nxt hb)
    have Hy3 := Lib.hid (Hy2.out.nxt hb)
    have Hz3 := Lib.hid (Hz2.out.nxt hb)
    have HB3 := Lib.hid (below_nx HB2.out hb)
    clear hb
    clear x0 x1 x2 x3 x4 y0 y1 y2 y3 y4 z0 z1 z2 z3 z4
    obtain ⟨x0, x1, x2, x3, x4⟩ := cells5 Hx3.out
    obtain ⟨y0, y1, y2, y3, y4⟩ := cells5 Hy3.out
    obtain ⟨z0, z1, z2, z3, z4⟩ := cells5 Hz3.out
    go_wp2_with fail
    go_ret
    exact ⟨rfl, HB3.out⟩
  · clear h3
    unfold mat at *
    go_enter Try.func43, Try.ntmps43
    have Hx0 := Lib.hid (((Blk.new w 26 #[.slice Ax nx cx, .int .i64 xo, .int .i64 xr, .int .i64 xk, .int .i64 xl]).alloc (.cells #[.slice Ay ny cy, .int .i64 yo, .int .i64 yr, .int .i64 yk, .int .i64 yl] 26)).alloc (.cells #[.slice Az nz cz, .int .i64 zo, .int .i64 zr, .int .i64 zk, .int .i64 zl] 26))
    have Hy0 := Lib.hid ((Blk.new_ (w.alloc (.cells #[.slice Ax nx cx, .int .i64 xo, .int .i64 xr, .int .i64 xk, .int .i64 xl] 26)) 26 #[.slice Ay ny cy, .int .i64 yo, .int .i64 yr, .int .i64 yk, .int .i64 yl] (w.heap.size + 1) (by simp)).alloc (.cells #[.slice Az nz cz, .int .i64 zo, .int .i64 zr, .int .i64 zk, .int .i64 zl] 26))
    have Hz0 := Lib.hid (Blk.new_ ((w.alloc (.cells #[.slice Ax nx cx, .int .i64 xo, .int .i64 xr, .int .i64 xk, .int .i64 xl] 26)).alloc (.cells #[.slice Ay ny cy, .int .i64 yo, .int .i64 yr, .int .i64 yk, .int .i64 yl] 26)) 26 #[.slice Az nz cz, .int .i64 zo, .int .i64 zr, .int .i64 zk, .int .i64 zl] (w.heap.size + 1 + 1) (by simp))
    have HB0 := Lib.hid ((((Below.refl w.heap.size w).alloc (Nat.le_refl _) (.cells #[.slice Ax nx cx, .int .i64 xo, .int .i64 xr, .int .i64 xk, .int .i64 xl] 26)).alloc (by simp) (.cells #[.slice Ay ny cy, .int .i64 yo, .int .i64 yr, .int .i64 yk, .int .i64 yl] 26)).alloc (by simp; omega) (.cells #[.slice Az nz cz, .int .i64 zo, .int .i64 zr, .int .i64 zk, .int .i64 zl] 26))
    obtain ⟨x0, x1, x2, x3, x4⟩ := cells5 Hx0.out
    obtain ⟨y0, y1, y2, y3, y4⟩ := cells5 Hy0.out
    obtain ⟨z0, z1, z2, z3, z4⟩ := cells5 Hz0.out
    go_wp2_with fail
    refine (HGx.out _).mono ?_
    rintro e w1 ⟨rfl, hb⟩
    have Hx1 := Lib.hid (Hx0.out.nxt hb)
    have Hy1 := Lib.hid (Hy0.out.nxt hb)
    have Hz1 := Lib.hid (Hz0.out.nxt hb)
    have HB1 := Lib.hid (below_nx HB0.out hb)
    clear hb
    clear x0 x1 x2 x3 x4 y0 y1 y2 y3 y4 z0 z1 z2 z3 z4
    obtain ⟨x0, x1, x2, x3, x4⟩ := cells5 Hx1.out
    obtain ⟨y0, y1, y2, y3, y4⟩ := cells5 Hy1.out
    obtain ⟨z0, z1, z2, z3, z4⟩ := cells5 Hz1.out
    go_wp2_with fail
    refine (HGy.out _).mono ?_
    rintro e w2 ⟨rfl, hb⟩
    have Hx2 := Lib.hid (Hx1.out.nxt hb)
    have Hy2 := Lib.hid (Hy1.out.nxt hb)
    have Hz2 := Lib.hid (Hz1.out.nxt hb)
    have HB2 := Lib.hid (below_nx HB1.out hb)
    clear hb
    clear x0 x1 x2 x3 x4 y0 y1 y2 y3 y4 z0 z1 z2 z3 z4
    obtain ⟨x0, x1, x2, x3, x4⟩ := cells5 Hx2.out
    obtain ⟨y0, y1, y2, y3, y4⟩ := cells5 Hy2.out
    obtain ⟨z0, z1, z2, z3, z4⟩ := cells5 Hz2.out
    go_wp2_with fail
    refine (HGz.out _).mono ?_
    rintro e w3 ⟨rfl, hb⟩
    have Hx3 := Lib.hid (Hx2.out.nxt hb)
    have Hy3 := Lib.hid (Hy2.out.nxt hb)
    have Hz3 := Lib.hid (Hz2.out.nxt hb)
    have HB3 := Lib.hid (below_nx HB2.out hb)
    clear hb
    clear x0 x1 x2 x3 x4 y0 y1 y2 y3 y4 z0 z1 z2 z3 z4
    obtain ⟨x0, x1, x2, x3, x4⟩ := cells5 Hx3.out
    obtain ⟨y0, y1, y2, y3, y4⟩ := cells5 Hy3.out
    obtain ⟨z0, z1, z2, z3, z4⟩ := cells5 Hz3.out
    go_wp2_with fail
    go_ret
    exact ⟨rfl, HB3.out⟩
  · skip
    unfold mat at *
    go_enter Try.func43, Try.ntmps43
    have Hx0 := Lib.hid (((Blk.new w 26 #[.slice Ax nx cx, .int .i64 xo, .int .i64 xr, .int .i64 xk, .int .i64 xl]).alloc (.cells #[.slice Ay ny cy, .int .i64 yo, .int .i64 yr, .int .i64 yk, .int .i64 yl] 26)).alloc (.cells #[.slice Az nz cz, .int .i64 zo, .int .i64 zr, .int .i64 zk, .int .i64 zl] 26))
    have Hy0 := Lib.hid ((Blk.new_ (w.alloc (.cells #[.slice Ax nx cx, .int .i64 xo, .int .i64 xr, .int .i64 xk, .int .i64 xl] 26)) 26 #[.slice Ay ny cy, .int .i64 yo, .int .i64 yr, .int .i64 yk, .int .i64 yl] (w.heap.size + 1) (by simp)).alloc (.cells #[.slice Az nz cz, .int .i64 zo, .int .i64 zr, .int .i64 zk, .int .i64 zl] 26))
    have Hz0 := Lib.hid (Blk.new_ ((w.alloc (.cells #[.slice Ax nx cx, .int .i64 xo, .int .i64 xr, .int .i64 xk, .int .i64 xl] 26)).alloc (.cells #[.slice Ay ny cy, .int .i64 yo, .int .i64 yr, .int .i64 yk, .int .i64 yl] 26)) 26 #[.slice Az nz cz, .int .i64 zo, .int .i64 zr, .int .i64 zk, .int .i64 zl] (w.heap.size + 1 + 1) (by simp))
    have HB0 := Lib.hid ((((Below.refl w.heap.size w).alloc (Nat.le_refl _) (.cells #[.slice Ax nx cx, .int .i64 xo, .int .i64 xr, .int .i64 xk, .int .i64 xl] 26)).alloc (by simp) (.cells #[.slice Ay ny cy, .int .i64 yo, .int .i64 yr, .int .i64 yk, .int .i64 yl] 26)).alloc (by simp; omega) (.cells #[.slice Az nz cz, .int .i64 zo, .int .i64 zr, .int .i64 zk, .int .i64 zl] 26))
    obtain ⟨x0, x1, x2, x3, x4⟩ := cells5 Hx0.out
    obtain ⟨y0, y1, y2, y3, y4⟩ := cells5 Hy0.out
    obtain ⟨z0, z1, z2, z3, z4⟩ := cells5 Hz0.out
    go_wp2_with fail
    refine (HGx.out _).mono ?_
    rintro e w1 ⟨rfl, hb⟩
    have Hx1 := Lib.hid (Hx0.out.nxt hb)
    have Hy1 := Lib.hid (Hy0.out.nxt hb)
    have Hz1 := Lib.hid (Hz0.out.nxt hb)
    have HB1 := Lib.hid (below_nx HB0.out hb)
    clear hb
    clear x0 x1 x2 x3 x4 y0 y1 y2 y3 y4 z0 z1 z2 z3 z4
    obtain ⟨x0, x1, x2, x3, x4⟩ := cells5 Hx1.out
    obtain ⟨y0, y1, y2, y3, y4⟩ := cells5 Hy1.out
    obtain ⟨z0, z1, z2, z3, z4⟩ := cells5 Hz1.out
    go_wp2_with fail
    refine (HGy.out _).mono ?_
    rintro e w2 ⟨rfl, hb⟩
    have Hx2 := Lib.hid (Hx1.out.nxt hb)
    have Hy2 := Lib.hid (Hy1.out.nxt hb)
    have Hz2 := Lib.hid (Hz1.out.nxt hb)
    have HB2 := Lib.hid (below_nx HB1.out hb)
    clear hb
    clear x0 x1 x2 x3 x4 y0 y1 y2 y3 y4 z0 z1 z2 z3 z4
    obtain ⟨x0, x1, x2, x3, x4⟩ := cells5 Hx2.out
    obtain ⟨y0, y1, y2, y3, y4⟩ := cells5 Hy2.out
    obtain ⟨z0, z1, z2, z3, z4⟩ := cells5 Hz2.out
    go_wp2_with fail
    refine (HGz.out _).mono ?_
    rintro e w3 ⟨rfl, hb⟩
    have Hx3 := Lib.hid (Hx2.out.nxt hb)
    have Hy3 := Lib.hid (Hy2.out.nxt hb)
    have Hz3 := Lib.hid (Hz2.out.nxt hb)
    have HB3 := Lib.hid (below_nx HB2.out hb)
    clear hb
    clear x0 x1 x2 x3 x4 y0 y1 y2 y3 y4 z0 z1 z2 z3 z4
    obtain ⟨x0, x1, x2, x3, x4⟩ := cells5 Hx3.out
    obtain ⟨y0, y1, y2, y3, y4⟩ := cells5 Hy3.out
    obtain ⟨z0, z1, z2, z3, z4⟩ := cells5 Hz3.out
    go_wp2_with fail
    go_ret
    exact ⟨rfl, HB3.out⟩

set_option maxHeartbeats 2000000 in
theorem gefits_meet (Ax : Option Addr) (nx cx : Nat) (xo xl : Int) (Ay : Option Addr) (ny cy : Nat) (yo yl : Int) (Az : Option Addr) (nz cz : Nat) (zo zl : Int) (R K C : Int) (b1 b2 : Bool) (w : World) (hR : I64 R) (hK : I64 K) (hC : I64 C) (hnx : nx < 9223372036854775808) (hxo : I64 xo) (hxl : I64 xl) (hny : ny < 9223372036854775808) (hyo : I64 yo) (hyl : I64 yl) (hnz : nz < 9223372036854775808) (hzo : I64 zo) (hzl : I64 zl) (h : (matB nx xo R K xl && matB ny yo K C yl && matB nz zo R C zl) = true) (hx : ∀ W, Below w.heap.size w W → Calls Try.prog 32 #[mat Az nz cz zo R C zl, mat Ax nx cx xo R K xl] W fun e w' => e = .returned (.bool b1) ∧ Below W.heap.size W w') (hy : ∀ W, Below w.heap.size w W → Calls Try.prog 32 #[mat Az nz cz zo R C zl, mat Ay ny cy yo K C yl] W fun e w' => e = .returned (.bool b2) ∧ Below W.heap.size W w') (hb : (b1 || b2) = true) :
    Calls Try.prog 43 #[mat Ax nx cx xo R K xl, mat Ay ny cy yo K C yl, mat Az nz cz zo R C zl] w fun e w' => e = .returned (.int .i64 2) ∧ Below w.heap.size w w' := by
  have HGx := Lib.hid (fun W => good_any Ax nx cx xo R K xl W hnx hxo hR hK hxl)
  have HGy := Lib.hid (fun W => good_any Ay ny cy yo K C yl W hny hyo hK hC hyl)
  have HGz := Lib.hid (fun W => good_any Az nz cz zo R C zl W hnz hzo hR hC hzl)
  simp only [Bool.and_eq_true] at h
  rw [h.1.1] at HGx
  rw [h.1.2] at HGy
  rw [h.2] at HGz
  clear h
  clear hR hK hC hnx hxo hxl hny hyo hyl hnz hzo hzl
  have HMx := Lib.hid hx
  have HMy := Lib.hid hy
  clear hx hy
  have tR : (R == R) = true := by simp
  have tR' : (R != R) = false := by simp
  have tK : (K == K) = true := by simp
  have tK' : (K != K) = false := by simp
  have tC : (C == C) = true := by simp
  have tC' : (C != C) = false := by simp
  cases b1
  · have hb2 : b2 = true := by simpa using hb
    subst hb2
    clear hb
    unfold mat at *
    go_enter Try.func43, Try.ntmps43
    have Hx0 := Lib.hid (((Blk.new w 26 #[.slice Ax nx cx, .int .i64 xo, .int .i64 R, .int .i64 K, .int .i64 xl]).alloc (.cells #[.slice Ay ny cy, .int .i64 yo, .int .i64 K, .int .i64 C, .int .i64 yl] 26)).alloc (.cells #[.slice Az nz cz, .int .i64 zo, .int .i64 R, .int .i64 C, .int .i64 zl] 26))
    have Hy0 := Lib.hid ((Blk.new_ (w.alloc (.cells #[.slice Ax nx cx, .int .i64 xo, .int .i64 R, .int .i64 K, .int .i64 xl] 26)) 26 #[.slice Ay ny cy, .int .i64 yo, .int .i64 K, .int .i64 C, .int .i64 yl] (w.heap.size + 1) (by simp)).alloc (.cells #[.slice Az nz cz, .int .i64 zo, .int .i64 R, .int .i64 C, .int .i64 zl] 26))
    have Hz0 := Lib.hid (Blk.new_ ((w.alloc (.cells #[.slice Ax nx cx, .int .i64 xo, .int .i64 R, .int .i64 K, .int .i64 xl] 26)).alloc (.cells #[.slice Ay ny cy, .int .i64 yo, .int .i64 K, .int .i64 C, .int .i64 yl] 26)) 26 #[.slice Az nz cz, .int .i64 zo, .int .i64 R, .int .i64 C, .int .i64 zl] (w.heap.size + 1 + 1) (by simp))
    have HB0 := Lib.hid ((((Below.refl w.heap.size w).alloc (Nat.le_refl _) (.cells #[.slice Ax nx cx, .int .i64 xo, .int .i64 R, .int .i64 K, .int .i64 xl] 26)).alloc (by simp) (.cells #[.slice Ay ny cy, .int .i64 yo, .int .i64 K, .int .i64 C, .int .i64 yl] 26)).alloc (by simp; omega) (.cells #[.slice Az nz cz, .int .i64 zo, .int .i64 R, .int .i64 C, .int .i64 zl] 26))
    obtain ⟨x0, x1, x2, x3, x4⟩ := cells5 Hx0.out
    obtain ⟨y0, y1, y2, y3, y4⟩ := cells5 Hy0.out
    obtain ⟨z0, z1, z2, z3, z4⟩ := cells5 Hz0.out
    go_wp2_with fail
    refine (HGx.out _).mono ?_
    rintro e w1 ⟨rfl, hb⟩
    have Hx1 := Lib.hid (Hx0.out.nxt hb)
    have Hy1 := Lib.hid (Hy0.out.nxt hb)
    have Hz1 := Lib.hid (Hz0.out.nxt hb)
    have HB1 := Lib.hid (below_nx HB0.out hb)
    clear hb
    clear x0 x1 x2 x3 x4 y0 y1 y2 y3 y4 z0 z1 z2 z3 z4
    obtain ⟨x0, x1, x2, x3, x4⟩ := cells5 Hx1.out
    obtain ⟨y0, y1, y2, y3, y4⟩ := cells5 Hy1.out
    obtain ⟨z0, z1, z2, z3, z4⟩ := cells5 Hz1.out
    go_wp2_with fail
    refine (HGy.out _).mono ?_
    rintro e w2 ⟨rfl, hb⟩
    have Hx2 := Lib.hid (Hx1.out.nxt hb)
    have Hy2 := Lib.hid (Hy1.out.nxt hb)
    have Hz2 := Lib.hid (Hz1.out.nxt hb)
    have HB2 := Lib.hid (below_nx HB1.out hb)
    clear hb
    clear x0 x1 x2 x3 x4 y0 y1 y2 y3 y4 z0 z1 z2 z3 z4
    obtain ⟨x0, x1, x2, x3, x4⟩ := cells5 Hx2.out
    obtain ⟨y0, y1, y2, y3, y4⟩ := cells5 Hy2.out
    obtain ⟨z0, z1, z2, z3, z4⟩ := cells5 Hz2.out
    go_wp2_with fail
    refine (HGz.out _).mono ?_
    rintro e w3 ⟨rfl, hb⟩
    have Hx3 := Lib.hid (Hx2.out.nxt hb)
    have Hy3 := Lib.hid (Hy2.out.nxt hb)
    have Hz3 := Lib.hid (Hz2.out.nxt hb)
    have HB3 := Lib.hid (below_nx HB2.out hb)
    clear hb
    clear x0 x1 x2 x3 x4 y0 y1 y2 y3 y4 z0 z1 z2 z3 z4
    obtain ⟨x0, x1, x2, x3, x4⟩ := cells5 Hx3.out
    obtain ⟨y0, y1, y2, y3, y4⟩ := cells5 Hy3.out
    obtain ⟨z0, z1, z2, z3, z4⟩ := cells5 Hz3.out
    go_wp2_with fail
    refine (HMx.out _ HB3.out).mono ?_
    rintro e w4 ⟨rfl, hb⟩
    have Hx4 := Lib.hid (Hx3.out.nxt hb)
    have Hy4 := Lib.hid (Hy3.out.nxt hb)
    have Hz4 := Lib.hid (Hz3.out.nxt hb)
    have HB4 := Lib.hid (below_nx HB3.out hb)
    clear hb
    clear x0 x1 x2 x3 x4 y0 y1 y2 y3 y4 z0 z1 z2 z3 z4
    obtain ⟨x0, x1, x2, x3, x4⟩ := cells5 Hx4.out
    obtain ⟨y0, y1, y2, y3, y4⟩ := cells5 Hy4.out
    obtain ⟨z0, z1, z2, z3, z4⟩ := cells5 Hz4.out
    go_wp2_with fail
    refine (HMy.out _ HB4.out).mono ?_
    rintro e w5 ⟨rfl, hb⟩
    have Hx5 := Lib.hid (Hx4.out.nxt hb)
    have Hy5 := Lib.hid (Hy4.out.nxt hb)
    have Hz5 := Lib.hid (Hz4.out.nxt hb)
    have HB5 := Lib.hid (below_nx HB4.out hb)
    clear hb
    clear x0 x1 x2 x3 x4 y0 y1 y2 y3 y4 z0 z1 z2 z3 z4
    obtain ⟨x0, x1, x2, x3, x4⟩ := cells5 Hx5.out
    obtain ⟨y0, y1, y2, y3, y4⟩ := cells5 Hy5.out
    obtain ⟨z0, z1, z2, z3, z4⟩ := cells5 Hz5.out
    go_wp2_with fail
    go_ret
    exact ⟨rfl, HB5.out⟩
  · clear hb
    unfold mat at *
    go_enter Try.func43, Try.ntmps43
    have Hx0 := Lib.hid (((Blk.new w 26 #[.slice Ax nx cx, .int .i64 xo, .int .i64 R, .int .i64 K, .int .i64 xl]).alloc (.cells #[.slice Ay ny cy, .int .i64 yo, .int .i64 K, .int .i64 C, .int .i64 yl] 26)).alloc (.cells #[.slice Az nz cz, .int .i64 zo, .int .i64 R, .int .i64 C, .int .i64 zl] 26))
    have Hy0 := Lib.hid ((Blk.new_ (w.alloc (.cells #[.slice Ax nx cx, .int .i64 xo, .int .i64 R, .int .i64 K, .int .i64 xl] 26)) 26 #[.slice Ay ny cy, .int .i64 yo, .int .i64 K, .int .i64 C, .int .i64 yl] (w.heap.size + 1) (by simp)).alloc (.cells #[.slice Az nz cz, .int .i64 zo, .int .i64 R, .int .i64 C, .int .i64 zl] 26))
    have Hz0 := Lib.hid (Blk.new_ ((w.alloc (.cells #[.slice Ax nx cx, .int .i64 xo, .int .i64 R, .int .i64 K, .int .i64 xl] 26)).alloc (.cells #[.slice Ay ny cy, .int .i64 yo, .int .i64 K, .int .i64 C, .int .i64 yl] 26)) 26 #[.slice Az nz cz, .int .i64 zo, .int .i64 R, .int .i64 C, .int .i64 zl] (w.heap.size + 1 + 1) (by simp))
    have HB0 := Lib.hid ((((Below.refl w.heap.size w).alloc (Nat.le_refl _) (.cells #[.slice Ax nx cx, .int .i64 xo, .int .i64 R, .int .i64 K, .int .i64 xl] 26)).alloc (by simp) (.cells #[.slice Ay ny cy, .int .i64 yo, .int .i64 K, .int .i64 C, .int .i64 yl] 26)).alloc (by simp; omega) (.cells #[.slice Az nz cz, .int .i64 zo, .int .i64 R, .int .i64 C, .int .i64 zl] 26))
    obtain ⟨x0, x1, x2, x3, x4⟩ := cells5 Hx0.out
    obtain ⟨y0, y1, y2, y3, y4⟩ := cells5 Hy0.out
    obtain ⟨z0, z1, z2, z3, z4⟩ := cells5 Hz0.out
    go_wp2_with fail
    refine (HGx.out _).mono ?_
    rintro e w1 ⟨rfl, hb⟩
    have Hx1 := Lib.hid (Hx0.out.nxt hb)
    have Hy1 := Lib.hid (Hy0.out.nxt hb)
    have Hz1 := Lib.hid (Hz0.out.nxt hb)
    have HB1 := Lib.hid (below_nx HB0.out hb)
    clear hb
    clear x0 x1 x2 x3 x4 y0 y1 y2 y3 y4 z0 z1 z2 z3 z4
    obtain ⟨x0, x1, x2, x3, x4⟩ := cells5 Hx1.out
    obtain ⟨y0, y1, y2, y3, y4⟩ := cells5 Hy1.out
    obtain ⟨z0, z1, z2, z3, z4⟩ := cells5 Hz1.out
    go_wp2_with fail
    refine (HGy.out _).mono ?_
    rintro e w2 ⟨rfl, hb⟩
    have Hx2 := Lib.hid (Hx1.out.nxt hb)
    have Hy2 := Lib.hid (Hy1.out.nxt hb)
    have Hz2 := Lib.hid (Hz1.out.nxt hb)
    have HB2 := Lib.hid (below_nx HB1.out hb)
    clear hb
    clear x0 x1 x2 x3 x4 y0 y1 y2 y3 y4 z0 z1 z2 z3 z4
    obtain ⟨x0, x1, x2, x3, x4⟩ := cells5 Hx2.out
    obtain ⟨y0, y1, y2, y3, y4⟩ := cells5 Hy2.out
    obtain ⟨z0, z1, z2, z3, z4⟩ := cells5 Hz2.out
    go_wp2_with fail
    refine (HGz.out _).mono ?_
    rintro e w3 ⟨rfl, hb⟩
    have Hx3 := Lib.hid (Hx2.out.nxt hb)
    have Hy3 := Lib.hid (Hy2.out.nxt hb)
    have Hz3 := Lib.hid (Hz2.out.nxt hb)
    have HB3 := Lib.hid (below_nx HB2.out hb)
    clear hb
    clear x0 x1 x2 x3 x4 y0 y1 y2 y3 y4 z0 z1 z2 z3 z4
    obtain ⟨x0, x1, x2, x3, x4⟩ := cells5 Hx3.out
    obtain ⟨y0, y1, y2, y3, y4⟩ := cells5 Hy3.out
    obtain ⟨z0, z1, z2, z3, z4⟩ := cells5 Hz3.out
    go_wp2_with fail
    refine (HMx.out _ HB3.out).mono ?_
    rintro e w4 ⟨rfl, hb⟩
    have Hx4 := Lib.hid (Hx3.out.nxt hb)
    have Hy4 := Lib.hid (Hy3.out.nxt hb)
    have Hz4 := Lib.hid (Hz3.out.nxt hb)
    have HB4 := Lib.hid (below_nx HB3.out hb)
    clear hb
    clear x0 x1 x2 x3 x4 y0 y1 y2 y3 y4 z0 z1 z2 z3 z4
    obtain ⟨x0, x1, x2, x3, x4⟩ := cells5 Hx4.out
    obtain ⟨y0, y1, y2, y3, y4⟩ := cells5 Hy4.out
    obtain ⟨z0, z1, z2, z3, z4⟩ := cells5 Hz4.out
    go_wp2_with fail
    go_ret
    exact ⟨rfl, HB4.out⟩

set_option maxHeartbeats 2000000 in
theorem gefits_ok (Ax : Option Addr) (nx cx : Nat) (xo xl : Int) (Ay : Option Addr) (ny cy : Nat) (yo yl : Int) (Az : Option Addr) (nz cz : Nat) (zo zl : Int) (R K C : Int) (w : World) (hR : I64 R) (hK : I64 K) (hC : I64 C) (hnx : nx < 9223372036854775808) (hxo : I64 xo) (hxl : I64 xl) (hny : ny < 9223372036854775808) (hyo : I64 yo) (hyl : I64 yl) (hnz : nz < 9223372036854775808) (hzo : I64 zo) (hzl : I64 zl) (h : (matB nx xo R K xl && matB ny yo K C yl && matB nz zo R C zl) = true) (hx : ∀ W, Below w.heap.size w W → Calls Try.prog 32 #[mat Az nz cz zo R C zl, mat Ax nx cx xo R K xl] W fun e w' => e = .returned (.bool false) ∧ Below W.heap.size W w') (hy : ∀ W, Below w.heap.size w W → Calls Try.prog 32 #[mat Az nz cz zo R C zl, mat Ay ny cy yo K C yl] W fun e w' => e = .returned (.bool false) ∧ Below W.heap.size W w') :
    Calls Try.prog 43 #[mat Ax nx cx xo R K xl, mat Ay ny cy yo K C yl, mat Az nz cz zo R C zl] w fun e w' => e = .returned (.int .i64 0) ∧ Below w.heap.size w w' := by
  have HGx := Lib.hid (fun W => good_any Ax nx cx xo R K xl W hnx hxo hR hK hxl)
  have HGy := Lib.hid (fun W => good_any Ay ny cy yo K C yl W hny hyo hK hC hyl)
  have HGz := Lib.hid (fun W => good_any Az nz cz zo R C zl W hnz hzo hR hC hzl)
  simp only [Bool.and_eq_true] at h
  rw [h.1.1] at HGx
  rw [h.1.2] at HGy
  rw [h.2] at HGz
  clear h
  clear hR hK hC hnx hxo hxl hny hyo hyl hnz hzo hzl
  have HMx := Lib.hid hx
  have HMy := Lib.hid hy
  clear hx hy
  have tR : (R == R) = true := by simp
  have tR' : (R != R) = false := by simp
  have tK : (K == K) = true := by simp
  have tK' : (K != K) = false := by simp
  have tC : (C == C) = true := by simp
  have tC' : (C != C) = false := by simp
  unfold mat at *
  go_enter Try.func43, Try.ntmps43
  have Hx0 := Lib.hid (((Blk.new w 26 #[.slice Ax nx cx, .int .i64 xo, .int .i64 R, .int .i64 K, .int .i64 xl]).alloc (.cells #[.slice Ay ny cy, .int .i64 yo, .int .i64 K, .int .i64 C, .int .i64 yl] 26)).alloc (.cells #[.slice Az nz cz, .int .i64 zo, .int .i64 R, .int .i64 C, .int .i64 zl] 26))
  have Hy0 := Lib.hid ((Blk.new_ (w.alloc (.cells #[.slice Ax nx cx, .int .i64 xo, .int .i64 R, .int .i64 K, .int .i64 xl] 26)) 26 #[.slice Ay ny cy, .int .i64 yo, .int .i64 K, .int .i64 C, .int .i64 yl] (w.heap.size + 1) (by simp)).alloc (.cells #[.slice Az nz cz, .int .i64 zo, .int .i64 R, .int .i64 C, .int .i64 zl] 26))
  have Hz0 := Lib.hid (Blk.new_ ((w.alloc (.cells #[.slice Ax nx cx, .int .i64 xo, .int .i64 R, .int .i64 K, .int .i64 xl] 26)).alloc (.cells #[.slice Ay ny cy, .int .i64 yo, .int .i64 K, .int .i64 C, .int .i64 yl] 26)) 26 #[.slice Az nz cz, .int .i64 zo, .int .i64 R, .int .i64 C, .int .i64 zl] (w.heap.size + 1 + 1) (by simp))
  have HB0 := Lib.hid ((((Below.refl w.heap.size w).alloc (Nat.le_refl _) (.cells #[.slice Ax nx cx, .int .i64 xo, .int .i64 R, .int .i64 K, .int .i64 xl] 26)).alloc (by simp) (.cells #[.slice Ay ny cy, .int .i64 yo, .int .i64 K, .int .i64 C, .int .i64 yl] 26)).alloc (by simp; omega) (.cells #[.slice Az nz cz, .int .i64 zo, .int .i64 R, .int .i64 C, .int .i64 zl] 26))
  obtain ⟨x0, x1, x2, x3, x4⟩ := cells5 Hx0.out
  obtain ⟨y0, y1, y2, y3, y4⟩ := cells5 Hy0.out
  obtain ⟨z0, z1, z2, z3, z4⟩ := cells5 Hz0.out
  go_wp2_with fail
  refine (HGx.out _).mono ?_
  rintro e w1 ⟨rfl, hb⟩
  have Hx1 := Lib.hid (Hx0.out.nxt hb)
  have Hy1 := Lib.hid (Hy0.out.nxt hb)
  have Hz1 := Lib.hid (Hz0.out.nxt hb)
  have HB1 := Lib.hid (below_nx HB0.out hb)
  clear hb
  clear x0 x1 x2 x3 x4 y0 y1 y2 y3 y4 z0 z1 z2 z3 z4
  obtain ⟨x0, x1, x2, x3, x4⟩ := cells5 Hx1.out
  obtain ⟨y0, y1, y2, y3, y4⟩ := cells5 Hy1.out
  obtain ⟨z0, z1, z2, z3, z4⟩ := cells5 Hz1.out
  go_wp2_with fail
  refine (HGy.out _).mono ?_
  rintro e w2 ⟨rfl, hb⟩
  have Hx2 := Lib.hid (Hx1.out.nxt hb)
  have Hy2 := Lib.hid (Hy1.out.nxt hb)
  have Hz2 := Lib.hid (Hz1.out.nxt hb)
  have HB2 := Lib.hid (below_nx HB1.out hb)
  clear hb
  clear x0 x1 x2 x3 x4 y0 y1 y2 y3 y4 z0 z1 z2 z3 z4
  obtain ⟨x0, x1, x2, x3, x4⟩ := cells5 Hx2.out
  obtain ⟨y0, y1, y2, y3, y4⟩ := cells5 Hy2.out
  obtain ⟨z0, z1, z2, z3, z4⟩ := cells5 Hz2.out
  go_wp2_with fail
  refine (HGz.out _).mono ?_
  rintro e w3 ⟨rfl, hb⟩
  have Hx3 := Lib.hid (Hx2.out.nxt hb)
  have Hy3 := Lib.hid (Hy2.out.nxt hb)
  have Hz3 := Lib.hid (Hz2.out.nxt hb)
  have HB3 := Lib.hid (below_nx HB2.out hb)
  clear hb
  clear x0 x1 x2 x3 x4 y0 y1 y2 y3 y4 z0 z1 z2 z3 z4
  obtain ⟨x0, x1, x2, x3, x4⟩ := cells5 Hx3.out
  obtain ⟨y0, y1, y2, y3, y4⟩ := cells5 Hy3.out
  obtain ⟨z0, z1, z2, z3, z4⟩ := cells5 Hz3.out
  go_wp2_with fail
  refine (HMx.out _ HB3.out).mono ?_
  rintro e w4 ⟨rfl, hb⟩
  have Hx4 := Lib.hid (Hx3.out.nxt hb)
  have Hy4 := Lib.hid (Hy3.out.nxt hb)
  have Hz4 := Lib.hid (Hz3.out.nxt hb)
  have HB4 := Lib.hid (below_nx HB3.out hb)
  clear hb
  clear x0 x1 x2 x3 x4 y0 y1 y2 y3 y4 z0 z1 z2 z3 z4
  obtain ⟨x0, x1, x2, x3, x4⟩ := cells5 Hx4.out
  obtain ⟨y0, y1, y2, y3, y4⟩ := cells5 Hy4.out
  obtain ⟨z0, z1, z2, z3, z4⟩ := cells5 Hz4.out
  go_wp2_with fail
  refine (HMy.out _ HB4.out).mono ?_
  rintro e w5 ⟨rfl, hb⟩
  have Hx5 := Lib.hid (Hx4.out.nxt hb)
  have Hy5 := Lib.hid (Hy4.out.nxt hb)
  have Hz5 := Lib.hid (Hz4.out.nxt hb)
  have HB5 := Lib.hid (below_nx HB4.out hb)
  clear hb
  clear x0 x1 x2 x3 x4 y0 y1 y2 y3 y4 z0 z1 z2 z3 z4
  obtain ⟨x0, x1, x2, x3, x4⟩ := cells5 Hx5.out
  obtain ⟨y0, y1, y2, y3, y4⟩ := cells5 Hy5.out
  obtain ⟨z0, z1, z2, z3, z4⟩ := cells5 Hz5.out
  go_wp2_with fail
  go_ret
  exact ⟨rfl, HB5.out⟩

set_option maxHeartbeats 2000000 in
theorem gemul_err (a b : Nat) (Ax : Option Addr) (nx cx : Nat) (xo xr xk xl : Int) (Ay : Option Addr) (ny cy : Nat) (yo yr yk yl : Int) (Az : Option Addr) (nz cz : Nat) (zo zr zk zl : Int) (E : Int) (w : World) (hE : E ≠ 0)
    (hF : ∀ W, Below w.heap.size w W → Calls Try.prog 43 #[mat Ax nx cx xo xr xk xl, mat Ay ny cy yo yr yk yl, mat Az nz cz zo zr zk zl] W fun e w' => e = .returned (.int .i64 E) ∧ Below W.heap.size W w') :
    Calls Try.prog 33 #[.float .f64 a, mat Ax nx cx xo xr xk xl, mat Ay ny cy yo yr yk yl, .float .f64 b, mat Az nz cz zo zr zk zl] w fun e w' => e = .returned (.int .i64 E) ∧ Below w.heap.size w w' := by
  have HF := Lib.hid hF
  have t0 : (E == 0) = false := by simpa using hE
  have t1 : (E != 0) = true := by simpa using hE
  clear hF hE
  unfold mat at *
  go_enter Try.func33, Try.ntmps33
  have Hx0 := Lib.hid (((Blk.new w 26 #[.slice Ax nx cx, .int .i64 xo, .int .i64 xr, .int .i64 xk, .int .i64 xl]).alloc (.cells #[.slice Ay ny cy, .int .i64 yo, .int .i64 yr, .int .i64 yk, .int .i64 yl] 26)).alloc (.cells #[.slice Az nz cz, .int .i64 zo, .int .i64 zr, .int .i64 zk, .int .i64 zl] 26))
  have Hy0 := Lib.hid ((Blk.new_ (w.alloc (.cells #[.slice Ax nx cx, .int .i64 xo, .int .i64 xr, .int .i64 xk, .int .i64 xl] 26)) 26 #[.slice Ay ny cy, .int .i64 yo, .int .i64 yr, .int .i64 yk, .int .i64 yl] (w.heap.size + 1) (by simp)).alloc (.cells #[.slice Az nz cz, .int .i64 zo, .int .i64 zr, .int .i64 zk, .int .i64 zl] 26))
  have Hz0 := Lib.hid (Blk.new_ ((w.alloc (.cells #[.slice Ax nx cx, .int .i64 xo, .int .i64 xr, .int .i64 xk, .int .i64 xl] 26)).alloc (.cells #[.slice Ay ny cy, .int .i64 yo, .int .i64 yr, .int .i64 yk, .int .i64 yl] 26)) 26 #[.slice Az nz cz, .int .i64 zo, .int .i64 zr, .int .i64 zk, .int .i64 zl] (w.heap.size + 1 + 1) (by simp))
  have HB0 := Lib.hid ((((Below.refl w.heap.size w).alloc (Nat.le_refl _) (.cells #[.slice Ax nx cx, .int .i64 xo, .int .i64 xr, .int .i64 xk, .int .i64 xl] 26)).alloc (by simp) (.cells #[.slice Ay ny cy, .int .i64 yo, .int .i64 yr, .int .i64 yk, .int .i64 yl] 26)).alloc (by simp; omega) (.cells #[.slice Az nz cz, .int .i64 zo, .int .i64 zr, .int .i64 zk, .int .i64 zl] 26))
  obtain ⟨x0, x1, x2, x3, x4⟩ := cells5 Hx0.out
  obtain ⟨y0, y1, y2, y3, y4⟩ := cells5 Hy0.out
  obtain ⟨z0, z1, z2, z3, z4⟩ := cells5 Hz0.out
  go_wp2_with fail
  refine (HF.out _ HB0.out).mono ?_
  rintro e w1 ⟨rfl, hb⟩
  have Hx1 := Lib.hid (Hx0.out.nxt hb)
  have Hy1 := Lib.hid (Hy0.out.nxt hb)
  have Hz1 := Lib.hid (Hz0.out.nxt hb)
  have HB1 := Lib.hid (below_nx HB0.out hb)
  clear hb
  clear x0 x1 x2 x3 x4 y0 y1 y2 y3 y4 z0 z1 z2 z3 z4
  obtain ⟨x0, x1, x2, x3, x4⟩ := cells5 Hx1.out
  obtain ⟨y0, y1, y2, y3, y4⟩ := cells5 Hy1.out
  obtain ⟨z0, z1, z2, z3, z4⟩ := cells5 Hz1.out
  go_wp2_with fail
  go_ret
  exact ⟨rfl, HB1.out⟩

set_option maxHeartbeats 2000000 in
theorem gemul_none (a b : Nat) (Ax : Option Addr) (nx cx : Nat) (xo xr xk xl : Int) (Ay : Option Addr) (ny cy : Nat) (yo yr yk yl : Int) (Az : Option Addr) (nz cz : Nat) (zo zk zl : Int) (w : World)
    (hF : ∀ W, Below w.heap.size w W → Calls Try.prog 43 #[mat Ax nx cx xo xr xk xl, mat Ay ny cy yo yr yk yl, mat Az nz cz zo 0 zk zl] W fun e w' => e = .returned (.int .i64 0) ∧ Below W.heap.size W w') :
    Calls Try.prog 33 #[.float .f64 a, mat Ax nx cx xo xr xk xl, mat Ay ny cy yo yr yk yl, .float .f64 b, mat Az nz cz zo 0 zk zl] w fun e w' => e = .returned (.int .i64 0) ∧ Below w.heap.size w w' := by
  have HF := Lib.hid hF
  clear hF
  unfold mat at *
  go_enter Try.func33, Try.ntmps33
  have Hx0 := Lib.hid (((Blk.new w 26 #[.slice Ax nx cx, .int .i64 xo, .int .i64 xr, .int .i64 xk, .int .i64 xl]).alloc (.cells #[.slice Ay ny cy, .int .i64 yo, .int .i64 yr, .int .i64 yk, .int .i64 yl] 26)).alloc (.cells #[.slice Az nz cz, .int .i64 zo, .int .i64 0, .int .i64 zk, .int .i64 zl] 26))
  have Hy0 := Lib.hid ((Blk.new_ (w.alloc (.cells #[.slice Ax nx cx, .int .i64 xo, .int .i64 xr, .int .i64 xk, .int .i64 xl] 26)) 26 #[.slice Ay ny cy, .int .i64 yo, .int .i64 yr, .int .i64 yk, .int .i64 yl] (w.heap.size + 1) (by simp)).alloc (.cells #[.slice Az nz cz, .int .i64 zo, .int .i64 0, .int .i64 zk, .int .i64 zl] 26))
  have Hz0 := Lib.hid (Blk.new_ ((w.alloc (.cells #[.slice Ax nx cx, .int .i64 xo, .int .i64 xr, .int .i64 xk, .int .i64 xl] 26)).alloc (.cells #[.slice Ay ny cy, .int .i64 yo, .int .i64 yr, .int .i64 yk, .int .i64 yl] 26)) 26 #[.slice Az nz cz, .int .i64 zo, .int .i64 0, .int .i64 zk, .int .i64 zl] (w.heap.size + 1 + 1) (by simp))
  have HB0 := Lib.hid ((((Below.refl w.heap.size w).alloc (Nat.le_refl _) (.cells #[.slice Ax nx cx, .int .i64 xo, .int .i64 xr, .int .i64 xk, .int .i64 xl] 26)).alloc (by simp) (.cells #[.slice Ay ny cy, .int .i64 yo, .int .i64 yr, .int .i64 yk, .int .i64 yl] 26)).alloc (by simp; omega) (.cells #[.slice Az nz cz, .int .i64 zo, .int .i64 0, .int .i64 zk, .int .i64 zl] 26))
  obtain ⟨x0, x1, x2, x3, x4⟩ := cells5 Hx0.out
  obtain ⟨y0, y1, y2, y3, y4⟩ := cells5 Hy0.out
  obtain ⟨z0, z1, z2, z3, z4⟩ := cells5 Hz0.out
  go_wp2_with fail
  refine (HF.out _ HB0.out).mono ?_
  rintro e w1 ⟨rfl, hb⟩
  have Hx1 := Lib.hid (Hx0.out.nxt hb)
  have Hy1 := Lib.hid (Hy0.out.nxt hb)
  have Hz1 := Lib.hid (Hz0.out.nxt hb)
  have HB1 := Lib.hid (below_nx HB0.out hb)
  clear hb
  clear x0 x1 x2 x3 x4 y0 y1 y2 y3 y4 z0 z1 z2 z3 z4
  obtain ⟨x0, x1, x2, x3, x4⟩ := cells5 Hx1.out
  obtain ⟨y0, y1, y2, y3, y4⟩ := cells5 Hy1.out
  obtain ⟨z0, z1, z2, z3, z4⟩ := cells5 Hz1.out
  go_wp2_with fail
  go_ret
  exact ⟨rfl, HB1.out⟩

end Go.Proofs.Ytbeefnekblepfaa
