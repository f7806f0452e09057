/-
GemmTells: what is great; what the law finds wrong. Conditions: as each says.
-/
import Derived.Test.YtbbgldelebgnfaaZGeM
import Derived.Test.YtbbgldelebgnfaaUaal
set_option linter.unusedVariables false
set_option linter.unusedSimpArgs false
set_option linter.unnecessarySimpa false
namespace Go.Proofs.Ytbbgldelebgnfaa
open Go.RowKit
attribute [local go_sem ↓] Go.wp_at_zero Go.wp_at_succ

set_option maxHeartbeats 2000000 in
theorem ggreat_any (Ax : Option Addr) (nx cx : Nat) (xo xr xk xl : Int) (Ay : Option Addr) (ny cy : Nat) (yo yr yk yl : Int) (Az : Option Addr) (nz cz : Nat) (zo zr zk zl : Int) (w : World) :
    Calls Try.prog 7 #[mat Ax nx cx xo xr xk xl, mat Ay ny cy yo yr yk yl, mat Az nz cz zo zr zk zl] w fun e w' => e = .returned (.bool (greatB nx xr xk || greatB ny yr yk || greatB nz zr zk)) ∧ Below w.heap.size w w' := by
  have HGx := Lib.hid (fun W => great_any Ax nx cx xo xr xk xl W)
  have HGy := Lib.hid (fun W => great_any Ay ny cy yo yr yk yl W)
  have HGz := Lib.hid (fun W => great_any Az nz cz zo zr zk zl W)
  generalize greatB nx xr xk = b1 at *
  generalize greatB ny yr yk = b2 at *
  generalize greatB nz zr zk = b3 at *
  cases b1
  · cases b2
    · rw [Bool.or_false, Bool.false_or]
      unfold mat at *
      go_enter Try.func7, Try.ntmps7
      have Hx0 := Lib.hid (((Blk.new w 25 #[.slice Ax nx cx, .int .i64 xo, .int .i64 xr, .int .i64 xk, .int .i64 xl]).alloc (.cells #[.slice Ay ny cy, .int .i64 yo, .int .i64 yr, .int .i64 yk, .int .i64 yl] 25)).alloc (.cells #[.slice Az nz cz, .int .i64 zo, .int .i64 zr, .int .i64 zk, .int .i64 zl] 25))
      have Hy0 := Lib.hid ((Blk.new_ (w.alloc (.cells #[.slice Ax nx cx, .int .i64 xo, .int .i64 xr, .int .i64 xk, .int .i64 xl] 25)) 25 #[.slice Ay ny cy, .int .i64 yo, .int .i64 yr, .int .i64 yk, .int .i64 yl] (w.heap.size + 1) (by simp)).alloc (.cells #[.slice Az nz cz, .int .i64 zo, .int .i64 zr, .int .i64 zk, .int .i64 zl] 25))
      have Hz0 := Lib.hid (Blk.new_ ((w.alloc (.cells #[.slice Ax nx cx, .int .i64 xo, .int .i64 xr, .int .i64 xk, .int .i64 xl] 25)).alloc (.cells #[.slice Ay ny cy, .int .i64 yo, .int .i64 yr, .int .i64 yk, .int .i64 yl] 25)) 25 #[.slice Az nz cz, .int .i64 zo, .int .i64 zr, .int .i64 zk, .int .i64 zl] (w.heap.size + 1 + 1) (by simp))
      have HB0 := Lib.hid ((((Below.refl w.heap.size w).alloc (Nat.le_refl _) (.cells #[.slice Ax nx cx, .int .i64 xo, .int .i64 xr, .int .i64 xk, .int .i64 xl] 25)).alloc (by simp) (.cells #[.slice Ay ny cy, .int .i64 yo, .int .i64 yr, .int .i64 yk, .int .i64 yl] 25)).alloc (by simp; omega) (.cells #[.slice Az nz cz, .int .i64 zo, .int .i64 zr, .int .i64 zk, .int .i64 zl] 25))
      obtain ⟨x0, x1, x2, x3, x4⟩ := cells5 Hx0.out
      obtain ⟨y0, y1, y2, y3, y4⟩ := cells5 Hy0.out
      obtain ⟨z0, z1, z2, z3, z4⟩ := cells5 Hz0.out
      go_wp2_with fail
      refine (HGx.out _).mono ?_
      rintro e w1 ⟨rfl, hb⟩
      have Hx1 := Lib.hid (Hx0.out.nxt hb)
      have Hy1 := Lib.hid (Hy0.out.nxt hb)
      have Hz1 := Lib.hid (Hz0.out.nxt hb)
      have HB1 := Lib.hid (below_nx HB0.out hb)
      clear hb
      clear x0 x1 x2 x3 x4 y0 y1 y2 y3 y4 z0 z1 z2 z3 z4
      obtain ⟨x0, x1, x2, x3, x4⟩ := cells5 Hx1.out
      obtain ⟨y0, y1, y2, y3, y4⟩ := cells5 Hy1.out
      obtain ⟨z0, z1, z2, z3, z4⟩ := cells5 Hz1.out
      go_wp2_with fail
      refine (HGy.out _).mono ?_
      rintro e w2 ⟨rfl, hb⟩
      have Hx2 := Lib.hid (Hx1.out.nxt hb)
      have Hy2 := Lib.hid (Hy1.out.nxt hb)
      have Hz2 := Lib.hid (Hz1.out.nxt hb)
      have HB2 := Lib.hid (below_nx HB1.out hb)
      clear hb
      clear x0 x1 x2 x3 x4 y0 y1 y2 y3 y4 z0 z1 z2 z3 z4
      obtain ⟨x0, x1, x2, x3, x4⟩ := cells5 Hx2.out
      obtain ⟨y0, y1, y2, y3, y4⟩ := cells5 Hy2.out
      obtain ⟨z0, z1, z2, z3, z4⟩ := cells5 Hz2.out
      go_wp2_with fail
      refine (HGz.out _).mono ?_
      rintro e w3 ⟨rfl, hb⟩
      have Hx3 := Lib.hid (Hx2.out.nxt hb)
      have Hy3 := Lib.hid (Hy2.out.nxt hb)
      have Hz3 := Lib.hid (Hz2.out.nxt hb)
      have HB3 := Lib.hid (below_nx HB2.out hb)
      clear hb
      clear x0 x1 x2 x3 x4 y0 y1 y2 y3 y4 z0 z1 z2 z3 z4
      obtain ⟨x0, x1, x2, x3, x4⟩ := cells5 Hx3.out
      obtain ⟨y0, y1, y2, y3, y4⟩ := cells5 Hy3.out
      obtain ⟨z0, z1, z2, z3, z4⟩ := cells5 Hz3.out
      go_wp2_with fail
      go_ret
      exact ⟨rfl, HB3.out⟩
    · rw [Bool.false_or, Bool.true_or]
      unfold mat at *
      go_enter Try.func7, Try.ntmps7
      have Hx0 := Lib.hid (((Blk.new w 25 #[.slice Ax nx cx, .int .i64 xo, .int .i64 xr, .int .i64 xk, .int .i64 xl]).alloc (.cells #[.slice Ay ny cy, .int .i64 yo, .int .i64 yr, .int .i64 yk, .int .i64 yl] 25)).alloc (.cells #[.slice Az nz cz, .int .i64 zo, .int .i64 zr, .int .i64 zk, .int .i64 zl] 25))
      have Hy0 := Lib.hid ((Blk.new_ (w.alloc (.cells #[.slice Ax nx cx, .int .i64 xo, .int .i64 xr, .int .i64 xk, .int .i64 xl] 25)) 25 #[.slice Ay ny cy, .int .i64 yo, .int .i64 yr, .int .i64 yk, .int .i64 yl] (w.heap.size + 1) (by simp)).alloc (.cells #[.slice Az nz cz, .int .i64 zo, .int .i64 zr, .int .i64 zk, .int .i64 zl] 25))
      have Hz0 := Lib.hid (Blk.new_ ((w.alloc (.cells #[.slice Ax nx cx, .int .i64 xo, .int .i64 xr, .int .i64 xk, .int .i64 xl] 25)).alloc (.cells #[.slice Ay ny cy, .int .i64 yo, .int .i64 yr, .int .i64 yk, .int .i64 yl] 25)) 25 #[.slice Az nz cz, .int .i64 zo, .int .i64 zr, .int .i64 zk, .int .i64 zl] (w.heap.size + 1 + 1) (by simp))
      have HB0 := Lib.hid ((((Below.refl w.heap.size w).alloc (Nat.le_refl _) (.cells #[.slice Ax nx cx, .int .i64 xo, .int .i64 xr, .int .i64 xk, .int .i64 xl] 25)).alloc (by simp) (.cells #[.slice Ay ny cy, .int .i64 yo, .int .i64 yr, .int .i64 yk, .int .i64 yl] 25)).alloc (by simp; omega) (.cells #[.slice Az nz cz, .int .i64 zo, .int .i64 zr, .int .i64 zk, .int .i64 zl] 25))
      obtain ⟨x0, x1, x2, x3, x4⟩ := cells5 Hx0.out
      obtain ⟨y0, y1, y2, y3, y4⟩ := cells5 Hy0.out
      obtain ⟨z0, z1, z2, z3, z4⟩ := cells5 Hz0.out
      go_wp2_with fail
      refine (HGx.out _).mono ?_
      rintro e w1 ⟨rfl, hb⟩
      have Hx1 := Lib.hid (Hx0.out.nxt hb)
      have Hy1 := Lib.hid (Hy0.out.nxt hb)
      have Hz1 := Lib.hid (Hz0.out.nxt hb)
      have HB1 := Lib.hid (below_nx HB0.out hb)
      clear hb
      clear x0 x1 x2 x3 x4 y0 y1 y2 y3 y4 z0 z1 z2 z3 z4
      obtain ⟨x0, x1, x2, x3, x4⟩ := cells5 Hx1.out
      obtain ⟨y0, y1, y2, y3, y4⟩ := cells5 Hy1.out
      obtain ⟨z0, z1, z2, z3, z4⟩ := cells5 Hz1.out
      go_wp2_with fail
      refine (HGy.out _).mono ?_
      rintro e w2 ⟨rfl, hb⟩
      have Hx2 := Lib.hid (Hx1.out.nxt hb)
      have Hy2 := Lib.hid (Hy1.out.nxt hb)
      have Hz2 := Lib.hid (Hz1.out.nxt hb)
      have HB2 := Lib.hid (below_nx HB1.out hb)
      clear hb
      clear x0 x1 x2 x3 x4 y0 y1 y2 y3 y4 z0 z1 z2 z3 z4
      obtain ⟨x0, x1, x2, x3, x4⟩ := cells5 Hx2.out
      obtain ⟨y0, y1, y2, y3, y4⟩ := cells5 Hy2.out
      obtain ⟨z0, z1, z2, z3, z4⟩ := cells5 Hz2.out
      go_wp2_with fail
      go_ret
      exact ⟨rfl, HB2.out⟩
  · rw [Bool.true_or, Bool.true_or]
    unfold mat at *
    go_enter Try.func7, Try.ntmps7
    have Hx0 := Lib.hid (((Blk.new w 25 #[.slice Ax nx cx, .int .i64 xo, .int .i64 xr, .int .i64 xk, .int .i64 xl]).alloc (.cells #[.slice Ay ny cy, .int .i64 yo, .int .i64 yr, .int .i64 yk, .int .i64 yl] 25)).alloc (.cells #[.slice Az nz cz, .int .i64 zo, .int .i64 zr, .int .i64 zk, .int .i64 zl] 25))
    have Hy0 := Lib.hid ((Blk.new_ (w.alloc (.cells #[.slice Ax nx cx, .int .i64 xo, .int .i64 xr, .int .i64 xk, .int .i64 xl] 25)) 25 #[.slice Ay ny cy, .int .i64 yo, .int .i64 yr, .int .i64 yk, .int .i64 yl] (w.heap.size + 1) (by simp)).alloc (.cells #[.slice Az nz cz, .int .i64 zo, .int .i64 zr, .int .i64 zk, .int .i64 zl] 25))
    have Hz0 := Lib.hid (Blk.new_ ((w.alloc (.cells #[.slice Ax nx cx, .int .i64 xo, .int .i64 xr, .int .i64 xk, .int .i64 xl] 25)).alloc (.cells #[.slice Ay ny cy, .int .i64 yo, .int .i64 yr, .int .i64 yk, .int .i64 yl] 25)) 25 #[.slice Az nz cz, .int .i64 zo, .int .i64 zr, .int .i64 zk, .int .i64 zl] (w.heap.size + 1 + 1) (by simp))
    have HB0 := Lib.hid ((((Below.refl w.heap.size w).alloc (Nat.le_refl _) (.cells #[.slice Ax nx cx, .int .i64 xo, .int .i64 xr, .int .i64 xk, .int .i64 xl] 25)).alloc (by simp) (.cells #[.slice Ay ny cy, .int .i64 yo, .int .i64 yr, .int .i64 yk, .int .i64 yl] 25)).alloc (by simp; omega) (.cells #[.slice Az nz cz, .int .i64 zo, .int .i64 zr, .int .i64 zk, .int .i64 zl] 25))
    obtain ⟨x0, x1, x2, x3, x4⟩ := cells5 Hx0.out
    obtain ⟨y0, y1, y2, y3, y4⟩ := cells5 Hy0.out
    obtain ⟨z0, z1, z2, z3, z4⟩ := cells5 Hz0.out
    go_wp2_with fail
    refine (HGx.out _).mono ?_
    rintro e w1 ⟨rfl, hb⟩
    have Hx1 := Lib.hid (Hx0.out.nxt hb)
    have Hy1 := Lib.hid (Hy0.out.nxt hb)
    have Hz1 := Lib.hid (Hz0.out.nxt hb)
    have HB1 := Lib.hid (below_nx HB0.out hb)
    clear hb
    clear x0 x1 x2 x3 x4 y0 y1 y2 y3 y4 z0 z1 z2 z3 z4
    obtain ⟨x0, x1, x2, x3, x4⟩ := cells5 Hx1.out
    obtain ⟨y0, y1, y2, y3, y4⟩ := cells5 Hy1.out
    obtain ⟨z0, z1, z2, z3, z4⟩ := cells5 Hz1.out
    go_wp2_with fail
    go_ret
    exact ⟨rfl, HB1.out⟩

set_option maxHeartbeats 2000000 in
theorem gcheck_bad (Ax : Option Addr) (nx cx : Nat) (xo xr xk xl : Int) (Ay : Option Addr) (ny cy : Nat) (yo yr yk yl : Int) (Az : Option Addr) (nz cz : Nat) (zo zr zk zl : Int) (one : Int) (w : World) (hnx : nx < 9223372036854775808) (hxo : I64 xo) (hxr : I64 xr) (hxk : I64 xk) (hxl : I64 xl) (hny : ny < 9223372036854775808) (hyo : I64 yo) (hyr : I64 yr) (hyk : I64 yk) (hyl : I64 yl) (hnz : nz < 9223372036854775808) (hzo : I64 zo) (hzr : I64 zr) (hzk : I64 zk) (hzl : I64 zl) (h : (matB nx xo xr xk xl && matB ny yo yr yk yl && matB nz zo zr zk zl) = false) :
    Calls Try.prog 10 #[mat Ax nx cx xo xr xk xl, mat Ay ny cy yo yr yk yl, mat Az nz cz zo zr zk zl, .int .i64 one] w fun e w' => e = .returned (.int .i64 1) ∧ Below w.heap.size w w' := by
  have HGx := Lib.hid (fun W => rgood_any Ax nx cx xo xr xk xl W hnx hxo hxr hxk hxl)
  have HGy := Lib.hid (fun W => rgood_any Ay ny cy yo yr yk yl W hny hyo hyr hyk hyl)
  have HGz := Lib.hid (fun W => rgood_any Az nz cz zo zr zk zl W hnz hzo hzr hzk hzl)
  generalize matB nx xo xr xk xl = b1 at *
  generalize matB ny yo yr yk yl = b2 at *
  generalize matB nz zo zr zk zl = b3 at *
  clear hnx hxo hxr hxk hxl hny hyo hyr hyk hyl hnz hzo hzr hzk hzl
  cases b1
  · clear h
    unfold mat at *
    go_enter Try.func10, Try.ntmps10
    have Hx0 := Lib.hid (((Blk.new w 25 #[.slice Ax nx cx, .int .i64 xo, .int .i64 xr, .int .i64 xk, .int .i64 xl]).alloc (.cells #[.slice Ay ny cy, .int .i64 yo, .int .i64 yr, .int .i64 yk, .int .i64 yl] 25)).alloc (.cells #[.slice Az nz cz, .int .i64 zo, .int .i64 zr, .int .i64 zk, .int .i64 zl] 25))
    have Hy0 := Lib.hid ((Blk.new_ (w.alloc (.cells #[.slice Ax nx cx, .int .i64 xo, .int .i64 xr, .int .i64 xk, .int .i64 xl] 25)) 25 #[.slice Ay ny cy, .int .i64 yo, .int .i64 yr, .int .i64 yk, .int .i64 yl] (w.heap.size + 1) (by simp)).alloc (.cells #[.slice Az nz cz, .int .i64 zo, .int .i64 zr, .int .i64 zk, .int .i64 zl] 25))
    have Hz0 := Lib.hid (Blk.new_ ((w.alloc (.cells #[.slice Ax nx cx, .int .i64 xo, .int .i64 xr, .int .i64 xk, .int .i64 xl] 25)).alloc (.cells #[.slice Ay ny cy, .int .i64 yo, .int .i64 yr, .int .i64 yk, .int .i64 yl] 25)) 25 #[.slice Az nz cz, .int .i64 zo, .int .i64 zr, .int .i64 zk, .int .i64 zl] (w.heap.size + 1 + 1) (by simp))
    have HB0 := Lib.hid ((((Below.refl w.heap.size w).alloc (Nat.le_refl _) (.cells #[.slice Ax nx cx, .int .i64 xo, .int .i64 xr, .int .i64 xk, .int .i64 xl] 25)).alloc (by simp) (.cells #[.slice Ay ny cy, .int .i64 yo, .int .i64 yr, .int .i64 yk, .int .i64 yl] 25)).alloc (by simp; omega) (.cells #[.slice Az nz cz, .int .i64 zo, .int .i64 zr, .int .i64 zk, .int .i64 zl] 25))
    obtain ⟨x0, x1, x2, x3, x4⟩ := cells5 Hx0.out
    obtain ⟨y0, y1, y2, y3, y4⟩ := cells5 Hy0.out
    obtain ⟨z0, z1, z2, z3, z4⟩ := cells5 Hz0.out
    go_wp2_with fail
    refine (HGx.out _).mono ?_
    rintro e w1 ⟨rfl, hb⟩
    have Hx1 := Lib.hid (Hx0.out.nxt hb)
    have Hy1 := Lib.hid (Hy0.out.nxt hb)
    have Hz1 := Lib.hid (Hz0.out.nxt hb)
    have HB1 := Lib.hid (below_nx HB0.out hb)
    clear hb
    clear x0 x1 x2 x3 x4 y0 y1 y2 y3 y4 z0 z1 z2 z3 z4
    obtain ⟨x0, x1, x2, x3, x4⟩ := cells5 Hx1.out
    obtain ⟨y0, y1, y2, y3, y4⟩ := cells5 Hy1.out
    obtain ⟨z0, z1, z2, z3, z4⟩ := cells5 Hz1.out
    go_wp2_with fail
    go_ret
    exact ⟨rfl, HB1.out⟩
  · cases b2
    · clear h
      unfold mat at *
      go_enter Try.func10, Try.ntmps10
      have Hx0 := Lib.hid (((Blk.new w 25 #[.slice Ax nx cx, .int .i64 xo, .int .i64 xr, .int .i64 xk, .int .i64 xl]).alloc (.cells #[.slice Ay ny cy, .int .i64 yo, .int .i64 yr, .int .i64 yk, .int .i64 yl] 25)).alloc (.cells #[.slice Az nz cz, .int .i64 zo, .int .i64 zr, .int .i64 zk, .int .i64 zl] 25))
      have Hy0 := Lib.hid ((Blk.new_ (w.alloc (.cells #[.slice Ax nx cx, .int .i64 xo, .int .i64 xr, .int .i64 xk, .int .i64 xl] 25)) 25 #[.slice Ay ny cy, .int .i64 yo, .int .i64 yr, .int .i64 yk, .int .i64 yl] (w.heap.size + 1) (by simp)).alloc (.cells #[.slice Az nz cz, .int .i64 zo, .int .i64 zr, .int .i64 zk, .int .i64 zl] 25))
      have Hz0 := Lib.hid (Blk.new_ ((w.alloc (.cells #[.slice Ax nx cx, .int .i64 xo, .int .i64 xr, .int .i64 xk, .int .i64 xl] 25)).alloc (.cells #[.slice Ay ny cy, .int .i64 yo, .int .i64 yr, .int .i64 yk, .int .i64 yl] 25)) 25 #[.slice Az nz cz, .int .i64 zo, .int .i64 zr, .int .i64 zk, .int .i64 zl] (w.heap.size + 1 + 1) (by simp))
      have HB0 := Lib.hid ((((Below.refl w.heap.size w).alloc (Nat.le_refl _) (.cells #[.slice Ax nx cx, .int .i64 xo, .int .i64 xr, .int .i64 xk, .int .i64 xl] 25)).alloc (by simp) (.cells #[.slice Ay ny cy, .int .i64 yo, .int .i64 yr, .int .i64 yk, .int .i64 yl] 25)).alloc (by simp; omega) (.cells #[.slice Az nz cz, .int .i64 zo, .int .i64 zr, .int .i64 zk, .int .i64 zl] 25))
      obtain ⟨x0, x1, x2, x3, x4⟩ := cells5 Hx0.out
      obtain ⟨y0, y1, y2, y3, y4⟩ := cells5 Hy0.out
      obtain ⟨z0, z1, z2, z3, z4⟩ := cells5 Hz0.out
      go_wp2_with fail
      refine (HGx.out _).mono ?_
      rintro e w1 ⟨rfl, hb⟩
      have Hx1 := Lib.hid (Hx0.out.nxt hb)
      have Hy1 := Lib.hid (Hy0.out.nxt hb)
      have Hz1 := Lib.hid (Hz0.out.nxt hb)
      have HB1 := Lib.hid (below_nx HB0.out hb)
      clear hb
      clear x0 x1 x2 x3 x4 y0 y1 y2 y3 y4 z0 z1 z2 z3 z4
      obtain ⟨x0, x1, x2, x3, x4⟩ := cells5 Hx1.out
      obtain ⟨y0, y1, y2, y3, y4⟩ := cells5 Hy1.out
      obtain ⟨z0, z1, z2, z3, z4⟩ := cells5 Hz1.out
      go_wp2_with fail
      refine (HGy.out _).mono ?_
      rintro e w2 ⟨rfl, hb⟩
      have Hx2 := Lib.hid (Hx1.out.nxt hb)
      have Hy2 := Lib.hid (Hy1.out.nxt hb)
      have Hz2 := Lib.hid (Hz1.out.nxt hb)
      have HB2 := Lib.hid (below_nx HB1.out hb)
      clear hb
      clear x0 x1 x2 x3 x4 y0 y1 y2 y3 y4 z0 z1 z2 z3 z4
      obtain ⟨x0, x1, x2, x3, x4⟩ := cells5 Hx2.out
      obtain ⟨y0, y1, y2, y3, y4⟩ := cells5 Hy2.out
      obtain ⟨z0, z1, z2, z3, z4⟩ := cells5 Hz2.out
      go_wp2_with fail
      go_ret
      exact ⟨rfl, HB2.out⟩
    · have hb3 : b3 = false := by simpa using h
      subst hb3
      clear h
      unfold mat at *
      go_enter Try.func10, Try.ntmps10
      have Hx0 := Lib.hid (((Blk.new w 25 #[.slice Ax nx cx, .int .i64 xo, .int .i64 xr, .int .i64 xk, .int .i64 xl]).alloc (.cells #[.slice Ay ny cy, .int .i64 yo, .int .i64 yr, .int .i64 yk, .int .i64 yl] 25)).alloc (.cells #[.slice Az nz cz, .int .i64 zo, .int .i64 zr, .int .i64 zk, .int .i64 zl] 25))
      have Hy0 := Lib.hid ((Blk.new_ (w.alloc (.cells #[.slice Ax nx cx, .int .i64 xo, .int .i64 xr, .int .i64 xk, .int .i64 xl] 25)) 25 #[.slice Ay ny cy, .int .i64 yo, .int .i64 yr, .int .i64 yk, .int .i64 yl] (w.heap.size + 1) (by simp)).alloc (.cells #[.slice Az nz cz, .int .i64 zo, .int .i64 zr, .int .i64 zk, .int .i64 zl] 25))
      have Hz0 := Lib.hid (Blk.new_ ((w.alloc (.cells #[.slice Ax nx cx, .int .i64 xo, .int .i64 xr, .int .i64 xk, .int .i64 xl] 25)).alloc (.cells #[.slice Ay ny cy, .int .i64 yo, .int .i64 yr, .int .i64 yk, .int .i64 yl] 25)) 25 #[.slice Az nz cz, .int .i64 zo, .int .i64 zr, .int .i64 zk, .int .i64 zl] (w.heap.size + 1 + 1) (by simp))
      have HB0 := Lib.hid ((((Below.refl w.heap.size w).alloc (Nat.le_refl _) (.cells #[.slice Ax nx cx, .int .i64 xo, .int .i64 xr, .int .i64 xk, .int .i64 xl] 25)).alloc (by simp) (.cells #[.slice Ay ny cy, .int .i64 yo, .int .i64 yr, .int .i64 yk, .int .i64 yl] 25)).alloc (by simp; omega) (.cells #[.slice Az nz cz, .int .i64 zo, .int .i64 zr, .int .i64 zk, .int .i64 zl] 25))
      obtain ⟨x0, x1, x2, x3, x4⟩ := cells5 Hx0.out
      obtain ⟨y0, y1, y2, y3, y4⟩ := cells5 Hy0.out
      obtain ⟨z0, z1, z2, z3, z4⟩ := cells5 Hz0.out
      go_wp2_with fail
      refine (HGx.out _).mono ?_
      rintro e w1 ⟨rfl, hb⟩
      have Hx1 := Lib.hid (Hx0.out.nxt hb)
      have Hy1 := Lib.hid (Hy0.out.nxt hb)
      have Hz1 := Lib.hid (Hz0.out.nxt hb)
      have HB1 := Lib.hid (below_nx HB0.out hb)
      clear hb
      clear x0 x1 x2 x3 x4 y0 y1 y2 y3 y4 z0 z1 z2 z3 z4
      obtain ⟨x0, x1, x2, x3, x4⟩ := cells5 Hx1.out
      obtain ⟨y0, y1, y2, y3, y4⟩ := cells5 Hy1.out
      obtain ⟨z0, z1, z2, z3, z4⟩ := cells5 Hz1.out
      go_wp2_with fail
      refine (HGy.out _).mono ?_
      rintro e w2 ⟨rfl, hb⟩
      have Hx2 := Lib.hid (Hx1.out.nxt hb)
      have Hy2 := Lib.hid (Hy1.out.nxt hb)
      have Hz2 := Lib.hid (Hz1.out.nxt hb)
      have HB2 := Lib.hid (below_nx HB1.out hb)
      clear hb
      clear x0 x1 x2 x3 x4 y0 y1 y2 y3 y4 z0 z1 z2 z3 z4
      obtain ⟨x0, x1, x2, x3, x4⟩ := cells5 Hx2.out
      obtain ⟨y0, y1, y2, y3, y4⟩ := cells5 Hy2.out
      obtain ⟨z0, z1, z2, z3, z4⟩ := cells5 Hz2.out
      go_wp2_with fail
      refine (HGz.out _).mono ?_
      rintro e w3 ⟨rfl, hb⟩
      have Hx3 := Lib.hid (Hx2.out.nxt hb)
      have Hy3 := Lib.hid (Hy2.out.nxt hb)
      have Hz3 := Lib.hid (Hz2.out.nxt hb)
      have HB3 := Lib.hid (below_nx HB2.out hb)
      clear hb
      clear x0 x1 x2 x3 x4 y0 y1 y2 y3 y4 z0 z1 z2 z3 z4
      obtain ⟨x0, x1, x2, x3, x4⟩ := cells5 Hx3.out
      obtain ⟨y0, y1, y2, y3, y4⟩ := cells5 Hy3.out
      obtain ⟨z0, z1, z2, z3, z4⟩ := cells5 Hz3.out
      go_wp2_with fail
      go_ret
      exact ⟨rfl, HB3.out⟩

set_option maxHeartbeats 2000000 in
theorem gcheck_size (Ax : Option Addr) (nx cx : Nat) (xo xr xk xl : Int) (Ay : Option Addr) (ny cy : Nat) (yo yr yk yl : Int) (Az : Option Addr) (nz cz : Nat) (zo zr zk zl : Int) (one : Int) (w : World) (hnx : nx < 9223372036854775808) (hxo : I64 xo) (hxr : I64 xr) (hxk : I64 xk) (hxl : I64 xl) (hny : ny < 9223372036854775808) (hyo : I64 yo) (hyr : I64 yr) (hyk : I64 yk) (hyl : I64 yl) (hnz : nz < 9223372036854775808) (hzo : I64 zo) (hzr : I64 zr) (hzk : I64 zk) (hzl : I64 zl) (h : (matB nx xo xr xk xl && matB ny yo yr yk yl && matB nz zo zr zk zl) = true) (b1 b2 b3 : Bool) (h1 : (xk != yr) = b1) (h2 : (zr != xr) = b2) (h3 : (zk != yk) = b3) (hbb : b1 = true ∨ (b1 = false ∧ b2 = true) ∨ (b1 = false ∧ b2 = false ∧ b3 = true)) :
    Calls Try.prog 10 #[mat Ax nx cx xo xr xk xl, mat Ay ny cy yo yr yk yl, mat Az nz cz zo zr zk zl, .int .i64 one] w fun e w' => e = .returned (.int .i64 3) ∧ Below w.heap.size w w' := by
  have HGx := Lib.hid (fun W => rgood_any Ax nx cx xo xr xk xl W hnx hxo hxr hxk hxl)
  have HGy := Lib.hid (fun W => rgood_any Ay ny cy yo yr yk yl W hny hyo hyr hyk hyl)
  have HGz := Lib.hid (fun W => rgood_any Az nz cz zo zr zk zl W hnz hzo hzr hzk hzl)
  simp only [Bool.and_eq_true] at h
  rw [h.1.1] at HGx
  rw [h.1.2] at HGy
  rw [h.2] at HGz
  clear h
  clear hnx hxo hxr hxk hxl hny hyo hyr hyk hyl hnz hzo hzr hzk hzl
  rcases hbb with rfl | ⟨rfl, rfl⟩ | ⟨rfl, rfl, rfl⟩
  · clear h2 h3
    unfold mat at *
    go_enter Try.func10, Try.ntmps10
    have Hx0 := Lib.hid (((Blk.new w 25 #[.slice Ax nx cx, .int .i64 xo, .int .i64 xr, .int .i64 xk, .int .i64 xl]).alloc (.cells #[.slice Ay ny cy, .int .i64 yo, .int .i64 yr, .int .i64 yk, .int .i64 yl] 25)).alloc (.cells #[.slice Az nz cz, .int .i64 zo, .int .i64 zr, .int .i64 zk, .int .i64 zl] 25))
    have Hy0 := Lib.hid ((Blk.new_ (w.alloc (.cells #[.slice Ax nx cx, .int .i64 xo, .int .i64 xr, .int .i64 xk, .int .i64 xl] 25)) 25 #[.slice Ay ny cy, .int .i64 yo, .int .i64 yr, .int .i64 yk, .int .i64 yl] (w.heap.size + 1) (by simp)).alloc (.cells #[.slice Az nz cz, .int .i64 zo, .int .i64 zr, .int .i64 zk, .int .i64 zl] 25))
    have Hz0 := Lib.hid (Blk.new_ ((w.alloc (.cells #[.slice Ax nx cx, .int .i64 xo, .int .i64 xr, .int .i64 xk, .int .i64 xl] 25)).alloc (.cells #[.slice Ay ny cy, .int .i64 yo, .int .i64 yr, .int .i64 yk, .int .i64 yl] 25)) 25 #[.slice Az nz cz, .int .i64 zo, .int .i64 zr, .int .i64 zk, .int .i64 zl] (w.heap.size + 1 + 1) (by simp))
    have HB0 := Lib.hid ((((Below.refl w.heap.size w).alloc (Nat.le_refl _) (.cells #[.slice Ax nx cx, .int .i64 xo, .int .i64 xr, .int .i64 xk, .int .i64 xl] 25)).alloc (by simp) (.cells #[.slice Ay ny cy, .int .i64 yo, .int .i64 yr, .int .i64 yk, .int .i64 yl] 25)).alloc (by simp; omega) (.cells #[.slice Az nz cz, .int .i64 zo, .int .i64 zr, .int .i64 zk, .int .i64 zl] 25))
    obtain ⟨x0, x1, x2, x3, x4⟩ := cells5 Hx0.out
    obtain ⟨y0, y1, y2, y3, y4⟩ := cells5 Hy0.out
    obtain ⟨z0, z1, z2, z3, z4⟩ := cells5 Hz0.out
    go_wp2_with fail
    refine (HGx.out _).mono ?_
    rintro e w1 ⟨rfl, hb⟩
    have Hx1 := Lib.hid (Hx0.out.nxt hb)
    have Hy1 := Lib.hid (Hy0.out.nxt hb)
    have Hz1 := Lib.hid (Hz0.out.nxt hb)
    have HB1 := Lib.hid (below_nx HB0.out hb)
    clear hb
    clear x0 x1 x2 x3 x4 y0 y1 y2 y3 y4 z0 z1 z2 z3 z4
    obtain ⟨x0, x1, x2, x3, x4⟩ := cells5 Hx1.out
    obtain ⟨y0, y1, y2, y3, y4⟩ := cells5 Hy1.out
    obtain ⟨z0, z1, z2, z3, z4⟩ := cells5 Hz1.out
    go_wp2_with fail
    refine (HGy.out _).mono ?_
    rintro e w2 ⟨rfl, hb⟩
    have Hx2 := Lib.hid (Hx1.out.nxt hb)
    have Hy2 := Lib.hid (Hy1.out.nxt hb)
    have Hz2 := Lib.hid (Hz1.out.nxt hb)
    have HB2 := Lib.hid (below_nx HB1.out hb)
    clear hb
    clear x0 x1 x2 x3 x4 y0 y1 y2 y3 y4 z0 z1 z2 z3 z4
    obtain ⟨x0, x1, x2, x3, x4⟩ := cells5 Hx2.out
    obtain ⟨y0, y1, y2, y3, y4⟩ := cells5 Hy2.out
    obtain ⟨z0, z1, z2, z3, z4⟩ := cells5 Hz2.out
    go_wp2_with fail
    refine (HGz.out _).mono ?_
    rintro e w3 ⟨rfl, hb⟩
    have Hx3 := Lib.hid (Hx2.out.nxt hb)
    have Hy3 := Lib.hid (Hy2.out.nxt hb)
    have Hz3 := Lib.hid (Hz2.out.nxt hb)
    have HB3 := Lib.hid (below_nx HB2.out hb)
    clear hb
    clear x0 x1 x2 x3 x4 y0 y1 y2 y3 y4 z0 z1 z2 z3 z4
    obtain ⟨x0, x1, x2, x3, x4⟩ := cells5 Hx3.out
    obtain ⟨y0, y1, y2, y3, y4⟩ := cells5 Hy3.out
    obtain ⟨z0, z1, z2, z3, z4⟩ := cells5 Hz3.out
    go_wp2_with fail
    go_ret
    exact ⟨rfl, HB3.out⟩
  · clear h3
    unfold mat at *
    go_enter Try.func10, Try.ntmps10
    have Hx0 := Lib.hid (((Blk.new w 25 #[.slice Ax nx cx, .int .i64 xo, .int .i64 xr, .int .i64 xk, .int .i64 xl]).alloc (.cells #[.slice Ay ny cy, .int .i64 yo, .int .i64 yr, .int .i64 yk, .int .i64 yl] 25)).alloc (.cells #[.slice Az nz cz, .int .i64 zo, .int .i64 zr, .int .i64 zk, .int .i64 zl] 25))
    have Hy0 := Lib.hid ((Blk.new_ (w.alloc (.cells #[.slice Ax nx cx, .int .i64 xo, .int .i64 xr, .int .i64 xk, .int .i64 xl] 25)) 25 #[.slice Ay ny cy, .int .i64 yo, .int .i64 yr, .int .i64 yk, .int .i64 yl] (w.heap.size + 1) (by simp)).alloc (.cells #[.slice Az nz cz, .int .i64 zo, .int .i64 zr, .int .i64 zk, .int .i64 zl] 25))
    have Hz0 := Lib.hid (Blk.new_ ((w.alloc (.cells #[.slice Ax nx cx, .int .i64 xo, .int .i64 xr, .int .i64 xk, .int .i64 xl] 25)).alloc (.cells #[.slice Ay ny cy, .int .i64 yo, .int .i64 yr, .int .i64 yk, .int .i64 yl] 25)) 25 #[.slice Az nz cz, .int .i64 zo, .int .i64 zr, .int .i64 zk, .int .i64 zl] (w.heap.size + 1 + 1) (by simp))
    have HB0 := Lib.hid ((((Below.refl w.heap.size w).alloc (Nat.le_refl _) (.cells #[.slice Ax nx cx, .int .i64 xo, .int .i64 xr, .int .i64 xk, .int .i64 xl] 25)).alloc (by simp) (.cells #[.slice Ay ny cy, .int .i64 yo, .int .i64 yr, .int .i64 yk, .int .i64 yl] 25)).alloc (by simp; omega) (.cells #[.slice Az nz cz, .int .i64 zo, .int .i64 zr, .int .i64 zk, .int .i64 zl] 25))
    obtain ⟨x0, x1, x2, x3, x4⟩ := cells5 Hx0.out
    obtain ⟨y0, y1, y2, y3, y4⟩ := cells5 Hy0.out
    obtain ⟨z0, z1, z2, z3, z4⟩ := cells5 Hz0.out
    go_wp2_with fail
    refine (HGx.out _).mono ?_
    rintro e w1 ⟨rfl, hb⟩
    have Hx1 := Lib.hid (Hx0.out.nxt hb)
    have Hy1 := Lib.hid (Hy0.out.nxt hb)
    have Hz1 := Lib.hid (Hz0.out.nxt hb)
    have HB1 := Lib.hid (below_nx HB0.out hb)
    clear hb
    clear x0 x1 x2 x3 x4 y0 y1 y2 y3 y4 z0 z1 z2 z3 z4
    obtain ⟨x0, x1, x2, x3, x4⟩ := cells5 Hx1.out
    obtain ⟨y0, y1, y2, y3, y4⟩ := cells5 Hy1.out
    obtain ⟨z0, z1, z2, z3, z4⟩ := cells5 Hz1.out
    go_wp2_with fail
    refine (HGy.out _).mono ?_
    rintro e w2 ⟨rfl, hb⟩
    have Hx2 := Lib.hid (Hx1.out.nxt hb)
    have Hy2 := Lib.hid (Hy1.out.nxt hb)
    have Hz2 := Lib.hid (Hz1.out.nxt hb)
    have HB2 := Lib.hid (below_nx HB1.out hb)
    clear hb
    clear x0 x1 x2 x3 x4 y0 y1 y2 y3 y4 z0 z1 z2 z3 z4
    obtain ⟨x0, x1, x2, x3, x4⟩ := cells5 Hx2.out
    obtain ⟨y0, y1, y2, y3, y4⟩ := cells5 Hy2.out
    obtain ⟨z0, z1, z2, z3, z4⟩ := cells5 Hz2.out
    go_wp2_with fail
    refine (HGz.out _).mono ?_
    rintro e w3 ⟨rfl, hb⟩
    have Hx3 := Lib.hid (Hx2.out.nxt hb)
    have Hy3 := Lib.hid (Hy2.out.nxt hb)
    have Hz3 := Lib.hid (Hz2.out.nxt hb)
    have HB3 := Lib.hid (below_nx HB2.out hb)
    clear hb
    clear x0 x1 x2 x3 x4 y0 y1 y2 y3 y4 z0 z1 z2 z3 z4
    obtain ⟨x0, x1, x2, x3, x4⟩ := cells5 Hx3.out
    obtain ⟨y0, y1, y2, y3, y4⟩ := cells5 Hy3.out
    obtain ⟨z0, z1, z2, z3, z4⟩ := cells5 Hz3.out
    go_wp2_with fail
    go_ret
    exact ⟨rfl, HB3.out⟩
  · skip
    unfold mat at *
    go_enter Try.func10, Try.ntmps10
    have Hx0 := Lib.hid (((Blk.new w 25 #[.slice Ax nx cx, .int .i64 xo, .int .i64 xr, .int .i64 xk, .int .i64 xl]).alloc (.cells #[.slice Ay ny cy, .int .i64 yo, .int .i64 yr, .int .i64 yk, .int .i64 yl] 25)).alloc (.cells #[.slice Az nz cz, .int .i64 zo, .int .i64 zr, .int .i64 zk, .int .i64 zl] 25))
    have Hy0 := Lib.hid ((Blk.new_ (w.alloc (.cells #[.slice Ax nx cx, .int .i64 xo, .int .i64 xr, .int .i64 xk, .int .i64 xl] 25)) 25 #[.slice Ay ny cy, .int .i64 yo, .int .i64 yr, .int .i64 yk, .int .i64 yl] (w.heap.size + 1) (by simp)).alloc (.cells #[.slice Az nz cz, .int .i64 zo, .int .i64 zr, .int .i64 zk, .int .i64 zl] 25))
    have Hz0 := Lib.hid (Blk.new_ ((w.alloc (.cells #[.slice Ax nx cx, .int .i64 xo, .int .i64 xr, .int .i64 xk, .int .i64 xl] 25)).alloc (.cells #[.slice Ay ny cy, .int .i64 yo, .int .i64 yr, .int .i64 yk, .int .i64 yl] 25)) 25 #[.slice Az nz cz, .int .i64 zo, .int .i64 zr, .int .i64 zk, .int .i64 zl] (w.heap.size + 1 + 1) (by simp))
    have HB0 := Lib.hid ((((Below.refl w.heap.size w).alloc (Nat.le_refl _) (.cells #[.slice Ax nx cx, .int .i64 xo, .int .i64 xr, .int .i64 xk, .int .i64 xl] 25)).alloc (by simp) (.cells #[.slice Ay ny cy, .int .i64 yo, .int .i64 yr, .int .i64 yk, .int .i64 yl] 25)).alloc (by simp; omega) (.cells #[.slice Az nz cz, .int .i64 zo, .int .i64 zr, .int .i64 zk, .int .i64 zl] 25))
    obtain ⟨x0, x1, x2, x3, x4⟩ := cells5 Hx0.out
    obtain ⟨y0, y1, y2, y3, y4⟩ := cells5 Hy0.out
    obtain ⟨z0, z1, z2, z3, z4⟩ := cells5 Hz0.out
    go_wp2_with fail
    refine (HGx.out _).mono ?_
    rintro e w1 ⟨rfl, hb⟩
    have Hx1 := Lib.hid (Hx0.out.nxt hb)
    have Hy1 := Lib.hid (Hy0.out.nxt hb)
    have Hz1 := Lib.hid (Hz0.out.nxt hb)
    have HB1 := Lib.hid (below_nx HB0.out hb)
    clear hb
    clear x0 x1 x2 x3 x4 y0 y1 y2 y3 y4 z0 z1 z2 z3 z4
    obtain ⟨x0, x1, x2, x3, x4⟩ := cells5 Hx1.out
    obtain ⟨y0, y1, y2, y3, y4⟩ := cells5 Hy1.out
    obtain ⟨z0, z1, z2, z3, z4⟩ := cells5 Hz1.out
    go_wp2_with fail
    refine (HGy.out _).mono ?_
    rintro e w2 ⟨rfl, hb⟩
    have Hx2 := Lib.hid (Hx1.out.nxt hb)
    have Hy2 := Lib.hid (Hy1.out.nxt hb)
    have Hz2 := Lib.hid (Hz1.out.nxt hb)
    have HB2 := Lib.hid (below_nx HB1.out hb)
    clear hb
    clear x0 x1 x2 x3 x4 y0 y1 y2 y3 y4 z0 z1 z2 z3 z4
    obtain ⟨x0, x1, x2, x3, x4⟩ := cells5 Hx2.out
    obtain ⟨y0, y1, y2, y3, y4⟩ := cells5 Hy2.out
    obtain ⟨z0, z1, z2, z3, z4⟩ := cells5 Hz2.out
    go_wp2_with fail
    refine (HGz.out _).mono ?_
    rintro e w3 ⟨rfl, hb⟩
    have Hx3 := Lib.hid (Hx2.out.nxt hb)
    have Hy3 := Lib.hid (Hy2.out.nxt hb)
    have Hz3 := Lib.hid (Hz2.out.nxt hb)
    have HB3 := Lib.hid (below_nx HB2.out hb)
    clear hb
    clear x0 x1 x2 x3 x4 y0 y1 y2 y3 y4 z0 z1 z2 z3 z4
    obtain ⟨x0, x1, x2, x3, x4⟩ := cells5 Hx3.out
    obtain ⟨y0, y1, y2, y3, y4⟩ := cells5 Hy3.out
    obtain ⟨z0, z1, z2, z3, z4⟩ := cells5 Hz3.out
    go_wp2_with fail
    go_ret
    exact ⟨rfl, HB3.out⟩


set_option maxHeartbeats 2000000 in
theorem gcheck_one1 (Ax : Option Addr) (nx cx ox Lx : Nat) (Ay : Option Addr) (ny cy oy Ly : Nat) (Az : Option Addr) (nz cz oz Lz : Nat) (R K C : Nat) (w : World) (hR : R < 1048576) (hK : K < 1048576) (hC : C < 1048576) (hnx : nx < 1048576) (hox : I64 ox) (hLIx : I64 Lx) (hLx : 1 ≤ Lx) (hRLx : R ≤ Lx) (hmx : R = 0 ∨ K = 0 ∨ ox + (K - 1) * Lx + (R - 1) < nx) (hny : ny < 1048576) (hoy : I64 oy) (hLIy : I64 Ly) (hLy : 1 ≤ Ly) (hRLy : K ≤ Ly) (hmy : K = 0 ∨ C = 0 ∨ oy + (C - 1) * Ly + (K - 1) < ny) (hnz : nz < 1048576) (hoz : I64 oz) (hLIz : I64 Lz) (hLz : 1 ≤ Lz) (hRLz : R ≤ Lz) (hmz : R = 0 ∨ C = 0 ∨ oz + (C - 1) * Lz + (R - 1) < nz) (b : Bool) (hsp : spB (msA oz R C) (msB oz R C Lz) (msA ox R K) (msB ox R K Lx) = b) :
    Calls Try.prog 10 #[mat Ax nx cx ox R K Lx, mat Ay ny cy oy K C Ly, mat Az nz cz oz R C Lz, .int .i64 1] w fun e w' => e = .returned (.int .i64 (if b then 2 else 0)) ∧ Below w.heap.size w w' := by
  have HGx := Lib.hid (fun W => rgood_any Ax nx cx ox R K Lx W (by omega) hox (by unfold I64; omega) (by unfold I64; omega) hLIx)
  rw [mat_right hLx hRLx hmx] at HGx
  have HMx := Lib.hid (fun W => mspan_any Ax nx cx ox R K Lx W hnx (by omega) (by omega) hmx)
  have HGy := Lib.hid (fun W => rgood_any Ay ny cy oy K C Ly W (by omega) hoy (by unfold I64; omega) (by unfold I64; omega) hLIy)
  rw [mat_right hLy hRLy hmy] at HGy
  have HMy := Lib.hid (fun W => mspan_any Ay ny cy oy K C Ly W hny (by omega) (by omega) hmy)
  have HGz := Lib.hid (fun W => rgood_any Az nz cz oz R C Lz W (by omega) hoz (by unfold I64; omega) (by unfold I64; omega) hLIz)
  rw [mat_right hLz hRLz hmz] at HGz
  have HMz := Lib.hid (fun W => mspan_any Az nz cz oz R C Lz W hnz (by omega) (by omega) hmz)
  have HSp := Lib.hid (fun W => spans_any (msA oz R C) (msB oz R C Lz) (msA ox R K) (msB ox R K Lx) W)
  rw [hsp] at HSp
  obtain ⟨x1, hx1⟩ : ∃ v, msA ox R K = v := ⟨_, rfl⟩
  obtain ⟨x2, hx2⟩ : ∃ v, msB ox R K Lx = v := ⟨_, rfl⟩
  rw [hx1, hx2] at HMx
  obtain ⟨y1, hy1⟩ : ∃ v, msA oy K C = v := ⟨_, rfl⟩
  obtain ⟨y2, hy2⟩ : ∃ v, msB oy K C Ly = v := ⟨_, rfl⟩
  rw [hy1, hy2] at HMy
  obtain ⟨z1, hz1⟩ : ∃ v, msA oz R C = v := ⟨_, rfl⟩
  obtain ⟨z2, hz2⟩ : ∃ v, msB oz R C Lz = v := ⟨_, rfl⟩
  rw [hz1, hz2] at HMz
  rw [hz1, hz2, hx1, hx2] at HSp
  clear hsp
  clear hx1 hx2 hy1 hy2 hz1 hz2
  clear hR hK hC hnx hox hLIx hLx hRLx hmx hny hoy hLIy hLy hRLy hmy hnz hoz hLIz hLz hRLz hmz
  have tR : ((R : Int) == (R : Int)) = true := by simp
  have tR' : ((R : Int) != (R : Int)) = false := by simp
  have tK : ((K : Int) == (K : Int)) = true := by simp
  have tK' : ((K : Int) != (K : Int)) = false := by simp
  have tC : ((C : Int) == (C : Int)) = true := by simp
  have tC' : ((C : Int) != (C : Int)) = false := by simp
  cases b
  · skip
    unfold mat at *
    go_enter Try.func10, Try.ntmps10
    have Hx0 := Lib.hid (((Blk.new w 25 #[.slice Ax nx cx, .int .i64 (ox : Int), .int .i64 (R : Int), .int .i64 (K : Int), .int .i64 (Lx : Int)]).alloc (.cells #[.slice Ay ny cy, .int .i64 (oy : Int), .int .i64 (K : Int), .int .i64 (C : Int), .int .i64 (Ly : Int)] 25)).alloc (.cells #[.slice Az nz cz, .int .i64 (oz : Int), .int .i64 (R : Int), .int .i64 (C : Int), .int .i64 (Lz : Int)] 25))
    have Hy0 := Lib.hid ((Blk.new_ (w.alloc (.cells #[.slice Ax nx cx, .int .i64 (ox : Int), .int .i64 (R : Int), .int .i64 (K : Int), .int .i64 (Lx : Int)] 25)) 25 #[.slice Ay ny cy, .int .i64 (oy : Int), .int .i64 (K : Int), .int .i64 (C : Int), .int .i64 (Ly : Int)] (w.heap.size + 1) (by simp)).alloc (.cells #[.slice Az nz cz, .int .i64 (oz : Int), .int .i64 (R : Int), .int .i64 (C : Int), .int .i64 (Lz : Int)] 25))
    have Hz0 := Lib.hid (Blk.new_ ((w.alloc (.cells #[.slice Ax nx cx, .int .i64 (ox : Int), .int .i64 (R : Int), .int .i64 (K : Int), .int .i64 (Lx : Int)] 25)).alloc (.cells #[.slice Ay ny cy, .int .i64 (oy : Int), .int .i64 (K : Int), .int .i64 (C : Int), .int .i64 (Ly : Int)] 25)) 25 #[.slice Az nz cz, .int .i64 (oz : Int), .int .i64 (R : Int), .int .i64 (C : Int), .int .i64 (Lz : Int)] (w.heap.size + 1 + 1) (by simp))
    have HB0 := Lib.hid ((((Below.refl w.heap.size w).alloc (Nat.le_refl _) (.cells #[.slice Ax nx cx, .int .i64 (ox : Int), .int .i64 (R : Int), .int .i64 (K : Int), .int .i64 (Lx : Int)] 25)).alloc (by simp) (.cells #[.slice Ay ny cy, .int .i64 (oy : Int), .int .i64 (K : Int), .int .i64 (C : Int), .int .i64 (Ly : Int)] 25)).alloc (by simp; omega) (.cells #[.slice Az nz cz, .int .i64 (oz : Int), .int .i64 (R : Int), .int .i64 (C : Int), .int .i64 (Lz : Int)] 25))
    obtain ⟨x0, x1, x2, x3, x4⟩ := cells5 Hx0.out
    obtain ⟨y0, y1, y2, y3, y4⟩ := cells5 Hy0.out
    obtain ⟨z0, z1, z2, z3, z4⟩ := cells5 Hz0.out
    go_wp2_with fail
    refine (HGx.out _).mono ?_
    rintro e w1 ⟨rfl, hb⟩
    have Hx1 := Lib.hid (Hx0.out.nxt hb)
    have Hy1 := Lib.hid (Hy0.out.nxt hb)
    have Hz1 := Lib.hid (Hz0.out.nxt hb)
    have HB1 := Lib.hid (below_nx HB0.out hb)
    clear hb
    clear x0 x1 x2 x3 x4 y0 y1 y2 y3 y4 z0 z1 z2 z3 z4
    obtain ⟨x0, x1, x2, x3, x4⟩ := cells5 Hx1.out
    obtain ⟨y0, y1, y2, y3, y4⟩ := cells5 Hy1.out
    obtain ⟨z0, z1, z2, z3, z4⟩ := cells5 Hz1.out
    go_wp2_with fail
    refine (HGy.out _).mono ?_
    rintro e w2 ⟨rfl, hb⟩
    have Hx2 := Lib.hid (Hx1.out.nxt hb)
    have Hy2 := Lib.hid (Hy1.out.nxt hb)
    have Hz2 := Lib.hid (Hz1.out.nxt hb)
    have HB2 := Lib.hid (below_nx HB1.out hb)
    clear hb
    clear x0 x1 x2 x3 x4 y0 y1 y2 y3 y4 z0 z1 z2 z3 z4
    obtain ⟨x0, x1, x2, x3, x4⟩ := cells5 Hx2.out
    obtain ⟨y0, y1, y2, y3, y4⟩ := cells5 Hy2.out
    obtain ⟨z0, z1, z2, z3, z4⟩ := cells5 Hz2.out
    go_wp2_with fail
    refine (HGz.out _).mono ?_
    rintro e w3 ⟨rfl, hb⟩
    have Hx3 := Lib.hid (Hx2.out.nxt hb)
    have Hy3 := Lib.hid (Hy2.out.nxt hb)
    have Hz3 := Lib.hid (Hz2.out.nxt hb)
    have HB3 := Lib.hid (below_nx HB2.out hb)
    clear hb
    clear x0 x1 x2 x3 x4 y0 y1 y2 y3 y4 z0 z1 z2 z3 z4
    obtain ⟨x0, x1, x2, x3, x4⟩ := cells5 Hx3.out
    obtain ⟨y0, y1, y2, y3, y4⟩ := cells5 Hy3.out
    obtain ⟨z0, z1, z2, z3, z4⟩ := cells5 Hz3.out
    go_wp2_with fail
    refine (HMz.out _).mono ?_
    rintro e w4 ⟨rfl, hb⟩
    have Hx4 := Lib.hid (Hx3.out.nxt hb)
    have Hy4 := Lib.hid (Hy3.out.nxt hb)
    have Hz4 := Lib.hid (Hz3.out.nxt hb)
    have HB4 := Lib.hid (below_nx HB3.out hb)
    clear hb
    clear x0 x1 x2 x3 x4 y0 y1 y2 y3 y4 z0 z1 z2 z3 z4
    obtain ⟨x0, x1, x2, x3, x4⟩ := cells5 Hx4.out
    obtain ⟨y0, y1, y2, y3, y4⟩ := cells5 Hy4.out
    obtain ⟨z0, z1, z2, z3, z4⟩ := cells5 Hz4.out
    go_wp2_with fail
    refine (HMx.out _).mono ?_
    rintro e w5 ⟨rfl, hb⟩
    have Hx5 := Lib.hid (Hx4.out.nxt hb)
    have Hy5 := Lib.hid (Hy4.out.nxt hb)
    have Hz5 := Lib.hid (Hz4.out.nxt hb)
    have HB5 := Lib.hid (below_nx HB4.out hb)
    clear hb
    clear x0 x1 x2 x3 x4 y0 y1 y2 y3 y4 z0 z1 z2 z3 z4
    obtain ⟨x0, x1, x2, x3, x4⟩ := cells5 Hx5.out
    obtain ⟨y0, y1, y2, y3, y4⟩ := cells5 Hy5.out
    obtain ⟨z0, z1, z2, z3, z4⟩ := cells5 Hz5.out
    go_wp2_with fail
    refine (HSp.out _).mono ?_
    rintro e ws ⟨rfl, hws⟩
    subst hws
    go_wp2_with fail
    refine (HMy.out _).mono ?_
    rintro e w6 ⟨rfl, hb⟩
    have Hx6 := Lib.hid (Hx5.out.nxt hb)
    have Hy6 := Lib.hid (Hy5.out.nxt hb)
    have Hz6 := Lib.hid (Hz5.out.nxt hb)
    have HB6 := Lib.hid (below_nx HB5.out hb)
    clear hb
    clear x0 x1 x2 x3 x4 y0 y1 y2 y3 y4 z0 z1 z2 z3 z4
    obtain ⟨x0, x1, x2, x3, x4⟩ := cells5 Hx6.out
    obtain ⟨y0, y1, y2, y3, y4⟩ := cells5 Hy6.out
    obtain ⟨z0, z1, z2, z3, z4⟩ := cells5 Hz6.out
    go_wp2_with fail
    go_ret
    exact ⟨rfl, HB6.out⟩
  · skip
    unfold mat at *
    go_enter Try.func10, Try.ntmps10
    have Hx0 := Lib.hid (((Blk.new w 25 #[.slice Ax nx cx, .int .i64 (ox : Int), .int .i64 (R : Int), .int .i64 (K : Int), .int .i64 (Lx : Int)]).alloc (.cells #[.slice Ay ny cy, .int .i64 (oy : Int), .int .i64 (K : Int), .int .i64 (C : Int), .int .i64 (Ly : Int)] 25)).alloc (.cells #[.slice Az nz cz, .int .i64 (oz : Int), .int .i64 (R : Int), .int .i64 (C : Int), .int .i64 (Lz : Int)] 25))
    have Hy0 := Lib.hid ((Blk.new_ (w.alloc (.cells #[.slice Ax nx cx, .int .i64 (ox : Int), .int .i64 (R : Int), .int .i64 (K : Int), .int .i64 (Lx : Int)] 25)) 25 #[.slice Ay ny cy, .int .i64 (oy : Int), .int .i64 (K : Int), .int .i64 (C : Int), .int .i64 (Ly : Int)] (w.heap.size + 1) (by simp)).alloc (.cells #[.slice Az nz cz, .int .i64 (oz : Int), .int .i64 (R : Int), .int .i64 (C : Int), .int .i64 (Lz : Int)] 25))
    have Hz0 := Lib.hid (Blk.new_ ((w.alloc (.cells #[.slice Ax nx cx, .int .i64 (ox : Int), .int .i64 (R : Int), .int .i64 (K : Int), .int .i64 (Lx : Int)] 25)).alloc (.cells #[.slice Ay ny cy, .int .i64 (oy : Int), .int .i64 (K : Int), .int .i64 (C : Int), .int .i64 (Ly : Int)] 25)) 25 #[.slice Az nz cz, .int .i64 (oz : Int), .int .i64 (R : Int), .int .i64 (C : Int), .int .i64 (Lz : Int)] (w.heap.size + 1 + 1) (by simp))
    have HB0 := Lib.hid ((((Below.refl w.heap.size w).alloc (Nat.le_refl _) (.cells #[.slice Ax nx cx, .int .i64 (ox : Int), .int .i64 (R : Int), .int .i64 (K : Int), .int .i64 (Lx : Int)] 25)).alloc (by simp) (.cells #[.slice Ay ny cy, .int .i64 (oy : Int), .int .i64 (K : Int), .int .i64 (C : Int), .int .i64 (Ly : Int)] 25)).alloc (by simp; omega) (.cells #[.slice Az nz cz, .int .i64 (oz : Int), .int .i64 (R : Int), .int .i64 (C : Int), .int .i64 (Lz : Int)] 25))
    obtain ⟨x0, x1, x2, x3, x4⟩ := cells5 Hx0.out
    obtain ⟨y0, y1, y2, y3, y4⟩ := cells5 Hy0.out
    obtain ⟨z0, z1, z2, z3, z4⟩ := cells5 Hz0.out
    go_wp2_with fail
    refine (HGx.out _).mono ?_
    rintro e w1 ⟨rfl, hb⟩
    have Hx1 := Lib.hid (Hx0.out.nxt hb)
    have Hy1 := Lib.hid (Hy0.out.nxt hb)
    have Hz1 := Lib.hid (Hz0.out.nxt hb)
    have HB1 := Lib.hid (below_nx HB0.out hb)
    clear hb
    clear x0 x1 x2 x3 x4 y0 y1 y2 y3 y4 z0 z1 z2 z3 z4
    obtain ⟨x0, x1, x2, x3, x4⟩ := cells5 Hx1.out
    obtain ⟨y0, y1, y2, y3, y4⟩ := cells5 Hy1.out
    obtain ⟨z0, z1, z2, z3, z4⟩ := cells5 Hz1.out
    go_wp2_with fail
    refine (HGy.out _).mono ?_
    rintro e w2 ⟨rfl, hb⟩
    have Hx2 := Lib.hid (Hx1.out.nxt hb)
    have Hy2 := Lib.hid (Hy1.out.nxt hb)
    have Hz2 := Lib.hid (Hz1.out.nxt hb)
    have HB2 := Lib.hid (below_nx HB1.out hb)
    clear hb
    clear x0 x1 x2 x3 x4 y0 y1 y2 y3 y4 z0 z1 z2 z3 z4
    obtain ⟨x0, x1, x2, x3, x4⟩ := cells5 Hx2.out
    obtain ⟨y0, y1, y2, y3, y4⟩ := cells5 Hy2.out
    obtain ⟨z0, z1, z2, z3, z4⟩ := cells5 Hz2.out
    go_wp2_with fail
    refine (HGz.out _).mono ?_
    rintro e w3 ⟨rfl, hb⟩
    have Hx3 := Lib.hid (Hx2.out.nxt hb)
    have Hy3 := Lib.hid (Hy2.out.nxt hb)
    have Hz3 := Lib.hid (Hz2.out.nxt hb)
    have HB3 := Lib.hid (below_nx HB2.out hb)
    clear hb
    clear x0 x1 x2 x3 x4 y0 y1 y2 y3 y4 z0 z1 z2 z3 z4
    obtain ⟨x0, x1, x2, x3, x4⟩ := cells5 Hx3.out
    obtain ⟨y0, y1, y2, y3, y4⟩ := cells5 Hy3.out
    obtain ⟨z0, z1, z2, z3, z4⟩ := cells5 Hz3.out
    go_wp2_with fail
    refine (HMz.out _).mono ?_
    rintro e w4 ⟨rfl, hb⟩
    have Hx4 := Lib.hid (Hx3.out.nxt hb)
    have Hy4 := Lib.hid (Hy3.out.nxt hb)
    have Hz4 := Lib.hid (Hz3.out.nxt hb)
    have HB4 := Lib.hid (below_nx HB3.out hb)
    clear hb
    clear x0 x1 x2 x3 x4 y0 y1 y2 y3 y4 z0 z1 z2 z3 z4
    obtain ⟨x0, x1, x2, x3, x4⟩ := cells5 Hx4.out
    obtain ⟨y0, y1, y2, y3, y4⟩ := cells5 Hy4.out
    obtain ⟨z0, z1, z2, z3, z4⟩ := cells5 Hz4.out
    go_wp2_with fail
    refine (HMx.out _).mono ?_
    rintro e w5 ⟨rfl, hb⟩
    have Hx5 := Lib.hid (Hx4.out.nxt hb)
    have Hy5 := Lib.hid (Hy4.out.nxt hb)
    have Hz5 := Lib.hid (Hz4.out.nxt hb)
    have HB5 := Lib.hid (below_nx HB4.out hb)
    clear hb
    clear x0 x1 x2 x3 x4 y0 y1 y2 y3 y4 z0 z1 z2 z3 z4
    obtain ⟨x0, x1, x2, x3, x4⟩ := cells5 Hx5.out
    obtain ⟨y0, y1, y2, y3, y4⟩ := cells5 Hy5.out
    obtain ⟨z0, z1, z2, z3, z4⟩ := cells5 Hz5.out
    go_wp2_with fail
    refine (HSp.out _).mono ?_
    rintro e ws ⟨rfl, hws⟩
    subst hws
    go_wp2_with fail
    go_ret
    exact ⟨rfl, HB5.out⟩

set_option maxHeartbeats 2000000 in
theorem gcheck_one2 (Ax : Option Addr) (nx cx ox Lx : Nat) (Ay : Option Addr) (ny cy oy Ly : Nat) (Az : Option Addr) (nz cz oz Lz : Nat) (R K C : Nat) (w : World) (hR : R < 1048576) (hK : K < 1048576) (hC : C < 1048576) (hnx : nx < 1048576) (hox : I64 ox) (hLIx : I64 Lx) (hLx : 1 ≤ Lx) (hRLx : R ≤ Lx) (hmx : R = 0 ∨ K = 0 ∨ ox + (K - 1) * Lx + (R - 1) < nx) (hny : ny < 1048576) (hoy : I64 oy) (hLIy : I64 Ly) (hLy : 1 ≤ Ly) (hRLy : K ≤ Ly) (hmy : K = 0 ∨ C = 0 ∨ oy + (C - 1) * Ly + (K - 1) < ny) (hnz : nz < 1048576) (hoz : I64 oz) (hLIz : I64 Lz) (hLz : 1 ≤ Lz) (hRLz : R ≤ Lz) (hmz : R = 0 ∨ C = 0 ∨ oz + (C - 1) * Lz + (R - 1) < nz) (b : Bool) (hsp : spB (msA oz R C) (msB oz R C Lz) (msA oy K C) (msB oy K C Ly) = b) :
    Calls Try.prog 10 #[mat Ax nx cx ox R K Lx, mat Ay ny cy oy K C Ly, mat Az nz cz oz R C Lz, .int .i64 2] w fun e w' => e = .returned (.int .i64 (if b then 2 else 0)) ∧ Below w.heap.size w w' := by
  have HGx := Lib.hid (fun W => rgood_any Ax nx cx ox R K Lx W (by omega) hox (by unfold I64; omega) (by unfold I64; omega) hLIx)
  rw [mat_right hLx hRLx hmx] at HGx
  have HMx := Lib.hid (fun W => mspan_any Ax nx cx ox R K Lx W hnx (by omega) (by omega) hmx)
  have HGy := Lib.hid (fun W => rgood_any Ay ny cy oy K C Ly W (by omega) hoy (by unfold I64; omega) (by unfold I64; omega) hLIy)
  rw [mat_right hLy hRLy hmy] at HGy
  have HMy := Lib.hid (fun W => mspan_any Ay ny cy oy K C Ly W hny (by omega) (by omega) hmy)
  have HGz := Lib.hid (fun W => rgood_any Az nz cz oz R C Lz W (by omega) hoz (by unfold I64; omega) (by unfold I64; omega) hLIz)
  rw [mat_right hLz hRLz hmz] at HGz
  have HMz := Lib.hid (fun W => mspan_any Az nz cz oz R C Lz W hnz (by omega) (by omega) hmz)
  have HSp := Lib.hid (fun W => spans_any (msA oz R C) (msB oz R C Lz) (msA oy K C) (msB oy K C Ly) W)
  rw [hsp] at HSp
  obtain ⟨x1, hx1⟩ : ∃ v, msA ox R K = v := ⟨_, rfl⟩
  obtain ⟨x2, hx2⟩ : ∃ v, msB ox R K Lx = v := ⟨_, rfl⟩
  rw [hx1, hx2] at HMx
  obtain ⟨y1, hy1⟩ : ∃ v, msA oy K C = v := ⟨_, rfl⟩
  obtain ⟨y2, hy2⟩ : ∃ v, msB oy K C Ly = v := ⟨_, rfl⟩
  rw [hy1, hy2] at HMy
  obtain ⟨z1, hz1⟩ : ∃ v, msA oz R C = v := ⟨_, rfl⟩
  obtain ⟨z2, hz2⟩ : ∃ v, msB oz R C Lz = v := ⟨_, rfl⟩
  rw [hz1, hz2] at HMz
  rw [hz1, hz2, hy1, hy2] at HSp
  clear hsp
  clear hx1 hx2 hy1 hy2 hz1 hz2
  clear hR hK hC hnx hox hLIx hLx hRLx hmx hny hoy hLIy hLy hRLy hmy hnz hoz hLIz hLz hRLz hmz
  have tR : ((R : Int) == (R : Int)) = true := by simp
  have tR' : ((R : Int) != (R : Int)) = false := by simp
  have tK : ((K : Int) == (K : Int)) = true := by simp
  have tK' : ((K : Int) != (K : Int)) = false := by simp
  have tC : ((C : Int) == (C : Int)) = true := by simp
  have tC' : ((C : Int) != (C : Int)) = false := by simp
  cases b
  · skip
    unfold mat at *
    go_enter Try.func10, Try.ntmps10
    have Hx0 := Lib.hid (((Blk.new w 25 #[.slice Ax nx cx, .int .i64 (ox : Int), .int .i64 (R : Int), .int .i64 (K : Int), .int .i64 (Lx : Int)]).alloc (.cells #[.slice Ay ny cy, .int .i64 (oy : Int), .int .i64 (K : Int), .int .i64 (C : Int), .int .i64 (Ly : Int)] 25)).alloc (.cells #[.slice Az nz cz, .int .i64 (oz : Int), .int .i64 (R : Int), .int .i64 (C : Int), .int .i64 (Lz : Int)] 25))
    have Hy0 := Lib.hid ((Blk.new_ (w.alloc (.cells #[.slice Ax nx cx, .int .i64 (ox : Int), .int .i64 (R : Int), .int .i64 (K : Int), .int .i64 (Lx : Int)] 25)) 25 #[.slice Ay ny cy, .int .i64 (oy : Int), .int .i64 (K : Int), .int .i64 (C : Int), .int .i64 (Ly : Int)] (w.heap.size + 1) (by simp)).alloc (.cells #[.slice Az nz cz, .int .i64 (oz : Int), .int .i64 (R : Int), .int .i64 (C : Int), .int .i64 (Lz : Int)] 25))
    have Hz0 := Lib.hid (Blk.new_ ((w.alloc (.cells #[.slice Ax nx cx, .int .i64 (ox : Int), .int .i64 (R : Int), .int .i64 (K : Int), .int .i64 (Lx : Int)] 25)).alloc (.cells #[.slice Ay ny cy, .int .i64 (oy : Int), .int .i64 (K : Int), .int .i64 (C : Int), .int .i64 (Ly : Int)] 25)) 25 #[.slice Az nz cz, .int .i64 (oz : Int), .int .i64 (R : Int), .int .i64 (C : Int), .int .i64 (Lz : Int)] (w.heap.size + 1 + 1) (by simp))
    have HB0 := Lib.hid ((((Below.refl w.heap.size w).alloc (Nat.le_refl _) (.cells #[.slice Ax nx cx, .int .i64 (ox : Int), .int .i64 (R : Int), .int .i64 (K : Int), .int .i64 (Lx : Int)] 25)).alloc (by simp) (.cells #[.slice Ay ny cy, .int .i64 (oy : Int), .int .i64 (K : Int), .int .i64 (C : Int), .int .i64 (Ly : Int)] 25)).alloc (by simp; omega) (.cells #[.slice Az nz cz, .int .i64 (oz : Int), .int .i64 (R : Int), .int .i64 (C : Int), .int .i64 (Lz : Int)] 25))
    obtain ⟨x0, x1, x2, x3, x4⟩ := cells5 Hx0.out
    obtain ⟨y0, y1, y2, y3, y4⟩ := cells5 Hy0.out
    obtain ⟨z0, z1, z2, z3, z4⟩ := cells5 Hz0.out
    go_wp2_with fail
    refine (HGx.out _).mono ?_
    rintro e w1 ⟨rfl, hb⟩
    have Hx1 := Lib.hid (Hx0.out.nxt hb)
    have Hy1 := Lib.hid (Hy0.out.nxt hb)
    have Hz1 := Lib.hid (Hz0.out.nxt hb)
    have HB1 := Lib.hid (below_nx HB0.out hb)
    clear hb
    clear x0 x1 x2 x3 x4 y0 y1 y2 y3 y4 z0 z1 z2 z3 z4
    obtain ⟨x0, x1, x2, x3, x4⟩ := cells5 Hx1.out
    obtain ⟨y0, y1, y2, y3, y4⟩ := cells5 Hy1.out
    obtain ⟨z0, z1, z2, z3, z4⟩ := cells5 Hz1.out
    go_wp2_with fail
    refine (HGy.out _).mono ?_
    rintro e w2 ⟨rfl, hb⟩
    have Hx2 := Lib.hid (Hx1.out.nxt hb)
    have Hy2 := Lib.hid (Hy1.out.nxt hb)
    have Hz2 := Lib.hid (Hz1.out.nxt hb)
    have HB2 := Lib.hid (below_nx HB1.out hb)
    clear hb
    clear x0 x1 x2 x3 x4 y0 y1 y2 y3 y4 z0 z1 z2 z3 z4
    obtain ⟨x0, x1, x2, x3, x4⟩ := cells5 Hx2.out
    obtain ⟨y0, y1, y2, y3, y4⟩ := cells5 Hy2.out
    obtain ⟨z0, z1, z2, z3, z4⟩ := cells5 Hz2.out
    go_wp2_with fail
    refine (HGz.out _).mono ?_
    rintro e w3 ⟨rfl, hb⟩
    have Hx3 := Lib.hid (Hx2.out.nxt hb)
    have Hy3 := Lib.hid (Hy2.out.nxt hb)
    have Hz3 := Lib.hid (Hz2.out.nxt hb)
    have HB3 := Lib.hid (below_nx HB2.out hb)
    clear hb
    clear x0 x1 x2 x3 x4 y0 y1 y2 y3 y4 z0 z1 z2 z3 z4
    obtain ⟨x0, x1, x2, x3, x4⟩ := cells5 Hx3.out
    obtain ⟨y0, y1, y2, y3, y4⟩ := cells5 Hy3.out
    obtain ⟨z0, z1, z2, z3, z4⟩ := cells5 Hz3.out
    go_wp2_with fail
    refine (HMz.out _).mono ?_
    rintro e w4 ⟨rfl, hb⟩
    have Hx4 := Lib.hid (Hx3.out.nxt hb)
    have Hy4 := Lib.hid (Hy3.out.nxt hb)
    have Hz4 := Lib.hid (Hz3.out.nxt hb)
    have HB4 := Lib.hid (below_nx HB3.out hb)
    clear hb
    clear x0 x1 x2 x3 x4 y0 y1 y2 y3 y4 z0 z1 z2 z3 z4
    obtain ⟨x0, x1, x2, x3, x4⟩ := cells5 Hx4.out
    obtain ⟨y0, y1, y2, y3, y4⟩ := cells5 Hy4.out
    obtain ⟨z0, z1, z2, z3, z4⟩ := cells5 Hz4.out
    go_wp2_with fail
    refine (HMx.out _).mono ?_
    rintro e w5 ⟨rfl, hb⟩
    have Hx5 := Lib.hid (Hx4.out.nxt hb)
    have Hy5 := Lib.hid (Hy4.out.nxt hb)
    have Hz5 := Lib.hid (Hz4.out.nxt hb)
    have HB5 := Lib.hid (below_nx HB4.out hb)
    clear hb
    clear x0 x1 x2 x3 x4 y0 y1 y2 y3 y4 z0 z1 z2 z3 z4
    obtain ⟨x0, x1, x2, x3, x4⟩ := cells5 Hx5.out
    obtain ⟨y0, y1, y2, y3, y4⟩ := cells5 Hy5.out
    obtain ⟨z0, z1, z2, z3, z4⟩ := cells5 Hz5.out
    go_wp2_with fail
    refine (HMy.out _).mono ?_
    rintro e w6 ⟨rfl, hb⟩
    have Hx6 := Lib.hid (Hx5.out.nxt hb)
    have Hy6 := Lib.hid (Hy5.out.nxt hb)
    have Hz6 := Lib.hid (Hz5.out.nxt hb)
    have HB6 := Lib.hid (below_nx HB5.out hb)
    clear hb
    clear x0 x1 x2 x3 x4 y0 y1 y2 y3 y4 z0 z1 z2 z3 z4
    obtain ⟨x0, x1, x2, x3, x4⟩ := cells5 Hx6.out
    obtain ⟨y0, y1, y2, y3, y4⟩ := cells5 Hy6.out
    obtain ⟨z0, z1, z2, z3, z4⟩ := cells5 Hz6.out
    go_wp2_with fail
    refine (HSp.out _).mono ?_
    rintro e ws ⟨rfl, hws⟩
    subst hws
    go_wp2_with fail
    go_ret
    exact ⟨rfl, HB6.out⟩
  · skip
    unfold mat at *
    go_enter Try.func10, Try.ntmps10
    have Hx0 := Lib.hid (((Blk.new w 25 #[.slice Ax nx cx, .int .i64 (ox : Int), .int .i64 (R : Int), .int .i64 (K : Int), .int .i64 (Lx : Int)]).alloc (.cells #[.slice Ay ny cy, .int .i64 (oy : Int), .int .i64 (K : Int), .int .i64 (C : Int), .int .i64 (Ly : Int)] 25)).alloc (.cells #[.slice Az nz cz, .int .i64 (oz : Int), .int .i64 (R : Int), .int .i64 (C : Int), .int .i64 (Lz : Int)] 25))
    have Hy0 := Lib.hid ((Blk.new_ (w.alloc (.cells #[.slice Ax nx cx, .int .i64 (ox : Int), .int .i64 (R : Int), .int .i64 (K : Int), .int .i64 (Lx : Int)] 25)) 25 #[.slice Ay ny cy, .int .i64 (oy : Int), .int .i64 (K : Int), .int .i64 (C : Int), .int .i64 (Ly : Int)] (w.heap.size + 1) (by simp)).alloc (.cells #[.slice Az nz cz, .int .i64 (oz : Int), .int .i64 (R : Int), .int .i64 (C : Int), .int .i64 (Lz : Int)] 25))
    have Hz0 := Lib.hid (Blk.new_ ((w.alloc (.cells #[.slice Ax nx cx, .int .i64 (ox : Int), .int .i64 (R : Int), .int .i64 (K : Int), .int .i64 (Lx : Int)] 25)).alloc (.cells #[.slice Ay ny cy, .int .i64 (oy : Int), .int .i64 (K : Int), .int .i64 (C : Int), .int .i64 (Ly : Int)] 25)) 25 #[.slice Az nz cz, .int .i64 (oz : Int), .int .i64 (R : Int), .int .i64 (C : Int), .int .i64 (Lz : Int)] (w.heap.size + 1 + 1) (by simp))
    have HB0 := Lib.hid ((((Below.refl w.heap.size w).alloc (Nat.le_refl _) (.cells #[.slice Ax nx cx, .int .i64 (ox : Int), .int .i64 (R : Int), .int .i64 (K : Int), .int .i64 (Lx : Int)] 25)).alloc (by simp) (.cells #[.slice Ay ny cy, .int .i64 (oy : Int), .int .i64 (K : Int), .int .i64 (C : Int), .int .i64 (Ly : Int)] 25)).alloc (by simp; omega) (.cells #[.slice Az nz cz, .int .i64 (oz : Int), .int .i64 (R : Int), .int .i64 (C : Int), .int .i64 (Lz : Int)] 25))
    obtain ⟨x0, x1, x2, x3, x4⟩ := cells5 Hx0.out
    obtain ⟨y0, y1, y2, y3, y4⟩ := cells5 Hy0.out
    obtain ⟨z0, z1, z2, z3, z4⟩ := cells5 Hz0.out
    go_wp2_with fail
    refine (HGx.out _).mono ?_
    rintro e w1 ⟨rfl, hb⟩
    have Hx1 := Lib.hid (Hx0.out.nxt hb)
    have Hy1 := Lib.hid (Hy0.out.nxt hb)
    have Hz1 := Lib.hid (Hz0.out.nxt hb)
    have HB1 := Lib.hid (below_nx HB0.out hb)
    clear hb
    clear x0 x1 x2 x3 x4 y0 y1 y2 y3 y4 z0 z1 z2 z3 z4
    obtain ⟨x0, x1, x2, x3, x4⟩ := cells5 Hx1.out
    obtain ⟨y0, y1, y2, y3, y4⟩ := cells5 Hy1.out
    obtain ⟨z0, z1, z2, z3, z4⟩ := cells5 Hz1.out
    go_wp2_with fail
    refine (HGy.out _).mono ?_
    rintro e w2 ⟨rfl, hb⟩
    have Hx2 := Lib.hid (Hx1.out.nxt hb)
    have Hy2 := Lib.hid (Hy1.out.nxt hb)
    have Hz2 := Lib.hid (Hz1.out.nxt hb)
    have HB2 := Lib.hid (below_nx HB1.out hb)
    clear hb
    clear x0 x1 x2 x3 x4 y0 y1 y2 y3 y4 z0 z1 z2 z3 z4
    obtain ⟨x0, x1, x2, x3, x4⟩ := cells5 Hx2.out
    obtain ⟨y0, y1, y2, y3, y4⟩ := cells5 Hy2.out
    obtain ⟨z0, z1, z2, z3, z4⟩ := cells5 Hz2.out
    go_wp2_with fail
    refine (HGz.out _).mono ?_
    rintro e w3 ⟨rfl, hb⟩
    have Hx3 := Lib.hid (Hx2.out.nxt hb)
    have Hy3 := Lib.hid (Hy2.out.nxt hb)
    have Hz3 := Lib.hid (Hz2.out.nxt hb)
    have HB3 := Lib.hid (below_nx HB2.out hb)
    clear hb
    clear x0 x1 x2 x3 x4 y0 y1 y2 y3 y4 z0 z1 z2 z3 z4
    obtain ⟨x0, x1, x2, x3, x4⟩ := cells5 Hx3.out
    obtain ⟨y0, y1, y2, y3, y4⟩ := cells5 Hy3.out
    obtain ⟨z0, z1, z2, z3, z4⟩ := cells5 Hz3.out
    go_wp2_with fail
    refine (HMz.out _).mono ?_
    rintro e w4 ⟨rfl, hb⟩
    have Hx4 := Lib.hid (Hx3.out.nxt hb)
    have Hy4 := Lib.hid (Hy3.out.nxt hb)
    have Hz4 := Lib.hid (Hz3.out.nxt hb)
    have HB4 := Lib.hid (below_nx HB3.out hb)
    clear hb
    clear x0 x1 x2 x3 x4 y0 y1 y2 y3 y4 z0 z1 z2 z3 z4
    obtain ⟨x0, x1, x2, x3, x4⟩ := cells5 Hx4.out
    obtain ⟨y0, y1, y2, y3, y4⟩ := cells5 Hy4.out
    obtain ⟨z0, z1, z2, z3, z4⟩ := cells5 Hz4.out
    go_wp2_with fail
    refine (HMx.out _).mono ?_
    rintro e w5 ⟨rfl, hb⟩
    have Hx5 := Lib.hid (Hx4.out.nxt hb)
    have Hy5 := Lib.hid (Hy4.out.nxt hb)
    have Hz5 := Lib.hid (Hz4.out.nxt hb)
    have HB5 := Lib.hid (below_nx HB4.out hb)
    clear hb
    clear x0 x1 x2 x3 x4 y0 y1 y2 y3 y4 z0 z1 z2 z3 z4
    obtain ⟨x0, x1, x2, x3, x4⟩ := cells5 Hx5.out
    obtain ⟨y0, y1, y2, y3, y4⟩ := cells5 Hy5.out
    obtain ⟨z0, z1, z2, z3, z4⟩ := cells5 Hz5.out
    go_wp2_with fail
    refine (HMy.out _).mono ?_
    rintro e w6 ⟨rfl, hb⟩
    have Hx6 := Lib.hid (Hx5.out.nxt hb)
    have Hy6 := Lib.hid (Hy5.out.nxt hb)
    have Hz6 := Lib.hid (Hz5.out.nxt hb)
    have HB6 := Lib.hid (below_nx HB5.out hb)
    clear hb
    clear x0 x1 x2 x3 x4 y0 y1 y2 y3 y4 z0 z1 z2 z3 z4
    obtain ⟨x0, x1, x2, x3, x4⟩ := cells5 Hx6.out
    obtain ⟨y0, y1, y2, y3, y4⟩ := cells5 Hy6.out
    obtain ⟨z0, z1, z2, z3, z4⟩ := cells5 Hz6.out
    go_wp2_with fail
    refine (HSp.out _).mono ?_
    rintro e ws ⟨rfl, hws⟩
    subst hws
    go_wp2_with fail
    go_ret
    exact ⟨rfl, HB6.out⟩

set_option maxHeartbeats 2000000 in
theorem gcheck_else (Ax : Option Addr) (nx cx ox Lx : Nat) (Ay : Option Addr) (ny cy oy Ly : Nat) (Az : Option Addr) (nz cz oz Lz : Nat) (R K C : Nat) (one : Int) (f1 : (one == 1) = false) (f2 : (one == 2) = false) (w : World) (hR : R < 1048576) (hK : K < 1048576) (hC : C < 1048576) (hnx : nx < 1048576) (hox : I64 ox) (hLIx : I64 Lx) (hLx : 1 ≤ Lx) (hRLx : R ≤ Lx) (hmx : R = 0 ∨ K = 0 ∨ ox + (K - 1) * Lx + (R - 1) < nx) (hny : ny < 1048576) (hoy : I64 oy) (hLIy : I64 Ly) (hLy : 1 ≤ Ly) (hRLy : K ≤ Ly) (hmy : K = 0 ∨ C = 0 ∨ oy + (C - 1) * Ly + (K - 1) < ny) (hnz : nz < 1048576) (hoz : I64 oz) (hLIz : I64 Lz) (hLz : 1 ≤ Lz) (hRLz : R ≤ Lz) (hmz : R = 0 ∨ C = 0 ∨ oz + (C - 1) * Lz + (R - 1) < nz) :
    Calls Try.prog 10 #[mat Ax nx cx ox R K Lx, mat Ay ny cy oy K C Ly, mat Az nz cz oz R C Lz, .int .i64 one] w fun e w' => e = .returned (.int .i64 (0)) ∧ Below w.heap.size w w' := by
  have HGx := Lib.hid (fun W => rgood_any Ax nx cx ox R K Lx W (by omega) hox (by unfold I64; omega) (by unfold I64; omega) hLIx)
  rw [mat_right hLx hRLx hmx] at HGx
  have HMx := Lib.hid (fun W => mspan_any Ax nx cx ox R K Lx W hnx (by omega) (by omega) hmx)
  have HGy := Lib.hid (fun W => rgood_any Ay ny cy oy K C Ly W (by omega) hoy (by unfold I64; omega) (by unfold I64; omega) hLIy)
  rw [mat_right hLy hRLy hmy] at HGy
  have HMy := Lib.hid (fun W => mspan_any Ay ny cy oy K C Ly W hny (by omega) (by omega) hmy)
  have HGz := Lib.hid (fun W => rgood_any Az nz cz oz R C Lz W (by omega) hoz (by unfold I64; omega) (by unfold I64; omega) hLIz)
  rw [mat_right hLz hRLz hmz] at HGz
  have HMz := Lib.hid (fun W => mspan_any Az nz cz oz R C Lz W hnz (by omega) (by omega) hmz)
  obtain ⟨x1, hx1⟩ : ∃ v, msA ox R K = v := ⟨_, rfl⟩
  obtain ⟨x2, hx2⟩ : ∃ v, msB ox R K Lx = v := ⟨_, rfl⟩
  rw [hx1, hx2] at HMx
  obtain ⟨y1, hy1⟩ : ∃ v, msA oy K C = v := ⟨_, rfl⟩
  obtain ⟨y2, hy2⟩ : ∃ v, msB oy K C Ly = v := ⟨_, rfl⟩
  rw [hy1, hy2] at HMy
  obtain ⟨z1, hz1⟩ : ∃ v, msA oz R C = v := ⟨_, rfl⟩
  obtain ⟨z2, hz2⟩ : ∃ v, msB oz R C Lz = v := ⟨_, rfl⟩
  rw [hz1, hz2] at HMz
  clear hx1 hx2 hy1 hy2 hz1 hz2
  clear hR hK hC hnx hox hLIx hLx hRLx hmx hny hoy hLIy hLy hRLy hmy hnz hoz hLIz hLz hRLz hmz
  have tR : ((R : Int) == (R : Int)) = true := by simp
  have tR' : ((R : Int) != (R : Int)) = false := by simp
  have tK : ((K : Int) == (K : Int)) = true := by simp
  have tK' : ((K : Int) != (K : Int)) = false := by simp
  have tC : ((C : Int) == (C : Int)) = true := by simp
  have tC' : ((C : Int) != (C : Int)) = false := by simp
  unfold mat at *
  go_enter Try.func10, Try.ntmps10
  have Hx0 := Lib.hid (((Blk.new w 25 #[.slice Ax nx cx, .int .i64 (ox : Int), .int .i64 (R : Int), .int .i64 (K : Int), .int .i64 (Lx : Int)]).alloc (.cells #[.slice Ay ny cy, .int .i64 (oy : Int), .int .i64 (K : Int), .int .i64 (C : Int), .int .i64 (Ly : Int)] 25)).alloc (.cells #[.slice Az nz cz, .int .i64 (oz : Int), .int .i64 (R : Int), .int .i64 (C : Int), .int .i64 (Lz : Int)] 25))
  have Hy0 := Lib.hid ((Blk.new_ (w.alloc (.cells #[.slice Ax nx cx, .int .i64 (ox : Int), .int .i64 (R : Int), .int .i64 (K : Int), .int .i64 (Lx : Int)] 25)) 25 #[.slice Ay ny cy, .int .i64 (oy : Int), .int .i64 (K : Int), .int .i64 (C : Int), .int .i64 (Ly : Int)] (w.heap.size + 1) (by simp)).alloc (.cells #[.slice Az nz cz, .int .i64 (oz : Int), .int .i64 (R : Int), .int .i64 (C : Int), .int .i64 (Lz : Int)] 25))
  have Hz0 := Lib.hid (Blk.new_ ((w.alloc (.cells #[.slice Ax nx cx, .int .i64 (ox : Int), .int .i64 (R : Int), .int .i64 (K : Int), .int .i64 (Lx : Int)] 25)).alloc (.cells #[.slice Ay ny cy, .int .i64 (oy : Int), .int .i64 (K : Int), .int .i64 (C : Int), .int .i64 (Ly : Int)] 25)) 25 #[.slice Az nz cz, .int .i64 (oz : Int), .int .i64 (R : Int), .int .i64 (C : Int), .int .i64 (Lz : Int)] (w.heap.size + 1 + 1) (by simp))
  have HB0 := Lib.hid ((((Below.refl w.heap.size w).alloc (Nat.le_refl _) (.cells #[.slice Ax nx cx, .int .i64 (ox : Int), .int .i64 (R : Int), .int .i64 (K : Int), .int .i64 (Lx : Int)] 25)).alloc (by simp) (.cells #[.slice Ay ny cy, .int .i64 (oy : Int), .int .i64 (K : Int), .int .i64 (C : Int), .int .i64 (Ly : Int)] 25)).alloc (by simp; omega) (.cells #[.slice Az nz cz, .int .i64 (oz : Int), .int .i64 (R : Int), .int .i64 (C : Int), .int .i64 (Lz : Int)] 25))
  obtain ⟨x0, x1, x2, x3, x4⟩ := cells5 Hx0.out
  obtain ⟨y0, y1, y2, y3, y4⟩ := cells5 Hy0.out
  obtain ⟨z0, z1, z2, z3, z4⟩ := cells5 Hz0.out
  go_wp2_with fail
  refine (HGx.out _).mono ?_
  rintro e w1 ⟨rfl, hb⟩
  have Hx1 := Lib.hid (Hx0.out.nxt hb)
  have Hy1 := Lib.hid (Hy0.out.nxt hb)
  have Hz1 := Lib.hid (Hz0.out.nxt hb)
  have HB1 := Lib.hid (below_nx HB0.out hb)
  clear hb
  clear x0 x1 x2 x3 x4 y0 y1 y2 y3 y4 z0 z1 z2 z3 z4
  obtain ⟨x0, x1, x2, x3, x4⟩ := cells5 Hx1.out
  obtain ⟨y0, y1, y2, y3, y4⟩ := cells5 Hy1.out
  obtain ⟨z0, z1, z2, z3, z4⟩ := cells5 Hz1.out
  go_wp2_with fail
  refine (HGy.out _).mono ?_
  rintro e w2 ⟨rfl, hb⟩
  have Hx2 := Lib.hid (Hx1.out.nxt hb)
  have Hy2 := Lib.hid (Hy1.out.nxt hb)
  have Hz2 := Lib.hid (Hz1.out.nxt hb)
  have HB2 := Lib.hid (below_nx HB1.out hb)
  clear hb
  clear x0 x1 x2 x3 x4 y0 y1 y2 y3 y4 z0 z1 z2 z3 z4
  obtain ⟨x0, x1, x2, x3, x4⟩ := cells5 Hx2.out
  obtain ⟨y0, y1, y2, y3, y4⟩ := cells5 Hy2.out
  obtain ⟨z0, z1, z2, z3, z4⟩ := cells5 Hz2.out
  go_wp2_with fail
  refine (HGz.out _).mono ?_
  rintro e w3 ⟨rfl, hb⟩
  have Hx3 := Lib.hid (Hx2.out.nxt hb)
  have Hy3 := Lib.hid (Hy2.out.nxt hb)
  have Hz3 := Lib.hid (Hz2.out.nxt hb)
  have HB3 := Lib.hid (below_nx HB2.out hb)
  clear hb
  clear x0 x1 x2 x3 x4 y0 y1 y2 y3 y4 z0 z1 z2 z3 z4
  obtain ⟨x0, x1, x2, x3, x4⟩ := cells5 Hx3.out
  obtain ⟨y0, y1, y2, y3, y4⟩ := cells5 Hy3.out
  obtain ⟨z0, z1, z2, z3, z4⟩ := cells5 Hz3.out
  go_wp2_with fail
  refine (HMz.out _).mono ?_
  rintro e w4 ⟨rfl, hb⟩
  have Hx4 := Lib.hid (Hx3.out.nxt hb)
  have Hy4 := Lib.hid (Hy3.out.nxt hb)
  have Hz4 := Lib.hid (Hz3.out.nxt hb)
  have HB4 := Lib.hid (below_nx HB3.out hb)
  clear hb
  clear x0 x1 x2 x3 x4 y0 y1 y2 y3 y4 z0 z1 z2 z3 z4
  obtain ⟨x0, x1, x2, x3, x4⟩ := cells5 Hx4.out
  obtain ⟨y0, y1, y2, y3, y4⟩ := cells5 Hy4.out
  obtain ⟨z0, z1, z2, z3, z4⟩ := cells5 Hz4.out
  go_wp2_with fail
  refine (HMx.out _).mono ?_
  rintro e w5 ⟨rfl, hb⟩
  have Hx5 := Lib.hid (Hx4.out.nxt hb)
  have Hy5 := Lib.hid (Hy4.out.nxt hb)
  have Hz5 := Lib.hid (Hz4.out.nxt hb)
  have HB5 := Lib.hid (below_nx HB4.out hb)
  clear hb
  clear x0 x1 x2 x3 x4 y0 y1 y2 y3 y4 z0 z1 z2 z3 z4
  obtain ⟨x0, x1, x2, x3, x4⟩ := cells5 Hx5.out
  obtain ⟨y0, y1, y2, y3, y4⟩ := cells5 Hy5.out
  obtain ⟨z0, z1, z2, z3, z4⟩ := cells5 Hz5.out
  go_wp2_with fail
  refine (HMy.out _).mono ?_
  rintro e w6 ⟨rfl, hb⟩
  have Hx6 := Lib.hid (Hx5.out.nxt hb)
  have Hy6 := Lib.hid (Hy5.out.nxt hb)
  have Hz6 := Lib.hid (Hz5.out.nxt hb)
  have HB6 := Lib.hid (below_nx HB5.out hb)
  clear hb
  clear x0 x1 x2 x3 x4 y0 y1 y2 y3 y4 z0 z1 z2 z3 z4
  obtain ⟨x0, x1, x2, x3, x4⟩ := cells5 Hx6.out
  obtain ⟨y0, y1, y2, y3, y4⟩ := cells5 Hy6.out
  obtain ⟨z0, z1, z2, z3, z4⟩ := cells5 Hz6.out
  go_wp2_with fail
  go_ret
  exact ⟨rfl, HB6.out⟩
end Go.Proofs.Ytbbgldelebgnfaa
