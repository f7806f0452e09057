/-
Block: Mul. Conditions: as each says.
-/
import Derived.Test.YtbeefnekblepfaaZBkE
import Derived.Test.YtbeefnekblepfaaZGeC
import Derived.Test.YtbeefnekblepfaaZGeA
set_option linter.unusedVariables false
set_option linter.unusedSimpArgs false
set_option linter.unnecessarySimpa false
namespace Go.Proofs.Ytbeefnekblepfaa
open Go.RowKit
attribute [local go_sem ↓] Go.wp_at_zero Go.wp_at_succ

theorem run_buildP (r : Nat) (s0 s1 s2 x0 x1 x2 x3 x4 y0 y1 y2 y3 y4 z0 z1 z2 z3 z4 : Value) (w : World) : (Instr.build 48 #[(0, .agg #[s0, s1, s2]), (1, .float .f64 r), (2, .agg #[x0, x1, x2, x3, x4]), (3, .agg #[y0, y1, y2, y3, y4]), (4, .agg #[z0, z1, z2, z3, z4])]).run Try.prog w = .ok (.agg #[s0, s1, s2, .float .f64 r, x0, x1, x2, x3, x4, y0, y1, y2, y3, y4, z0, z1, z2, z3, z4]) w := by kernel_rfl
attribute [local go_sem high] run_buildP
theorem und_prodB : (Try.prog.underlying 48).map (·.isRow) = some true := by kernel_rfl
theorem und_prod : ∃ d, Try.prog.underlying 48 = some d ∧ d.isRow = true := by
  obtain ⟨d, h1, h2⟩ := Option.map_eq_some_iff.1 und_prodB
  exact ⟨d, h1, h2⟩

set_option maxRecDepth 100000 in
set_option maxHeartbeats 2000000 in
theorem bkmul_err (s1 s2 s3 : Int) (a b : Nat) (Ax : Option Addr) (nx cx : Nat) (xo xr xk xl : Int) (Ay : Option Addr) (ny cy : Nat) (yo yr yk yl : Int) (Az : Option Addr) (nz cz : Nat) (zo zr zk zl : Int) (E : Int) (w : World) (hE : E ≠ 0) (hF : ∀ W, Below w.heap.size w W → Calls Try.prog 18 #[.agg #[.int .i64 s1, .int .i64 s2, .int .i64 s3, .float .f64 a, .slice Ax nx cx, .int .i64 xo, .int .i64 xr, .int .i64 xk, .int .i64 xl, .slice Ay ny cy, .int .i64 yo, .int .i64 yr, .int .i64 yk, .int .i64 yl, .slice Az nz cz, .int .i64 zo, .int .i64 zr, .int .i64 zk, .int .i64 zl]] W fun e w' => e = .returned (.int .i64 E) ∧ Below W.heap.size W w') :
    Calls Try.prog 9 #[.agg #[.int .i64 s1, .int .i64 s2, .int .i64 s3], .float .f64 a, mat Ax nx cx xo xr xk xl, mat Ay ny cy yo yr yk yl, .float .f64 b, mat Az nz cz zo zr zk zl] w fun e w' => e = .returned (.int .i64 E) ∧ Below w.heap.size w w' := by
  have HF := Lib.hid hF
  have t0 : (E != 0) = true := by simp [hE]
  clear hF
  unfold mat at *
  go_enter Try.func9, Try.ntmps9
  have HS0 := Lib.hid ((((Blk.new w 31 #[.int .i64 s1, .int .i64 s2, .int .i64 s3]).alloc (.cells #[.slice Ax nx cx, .int .i64 xo, .int .i64 xr, .int .i64 xk, .int .i64 xl] 26)).alloc (.cells #[.slice Ay ny cy, .int .i64 yo, .int .i64 yr, .int .i64 yk, .int .i64 yl] 26)).alloc (.cells #[.slice Az nz cz, .int .i64 zo, .int .i64 zr, .int .i64 zk, .int .i64 zl] 26))
  have HX0 := Lib.hid (((Blk.new_ (w.alloc (.cells #[.int .i64 s1, .int .i64 s2, .int .i64 s3] 31)) 26 #[.slice Ax nx cx, .int .i64 xo, .int .i64 xr, .int .i64 xk, .int .i64 xl] (w.heap.size + 1) (by simp)).alloc (.cells #[.slice Ay ny cy, .int .i64 yo, .int .i64 yr, .int .i64 yk, .int .i64 yl] 26)).alloc (.cells #[.slice Az nz cz, .int .i64 zo, .int .i64 zr, .int .i64 zk, .int .i64 zl] 26))
  have HY0 := Lib.hid ((Blk.new_ ((w.alloc (.cells #[.int .i64 s1, .int .i64 s2, .int .i64 s3] 31)).alloc (.cells #[.slice Ax nx cx, .int .i64 xo, .int .i64 xr, .int .i64 xk, .int .i64 xl] 26)) 26 #[.slice Ay ny cy, .int .i64 yo, .int .i64 yr, .int .i64 yk, .int .i64 yl] (w.heap.size + 1 + 1) (by simp)).alloc (.cells #[.slice Az nz cz, .int .i64 zo, .int .i64 zr, .int .i64 zk, .int .i64 zl] 26))
  have HZ0 := Lib.hid (Blk.new_ (((w.alloc (.cells #[.int .i64 s1, .int .i64 s2, .int .i64 s3] 31)).alloc (.cells #[.slice Ax nx cx, .int .i64 xo, .int .i64 xr, .int .i64 xk, .int .i64 xl] 26)).alloc (.cells #[.slice Ay ny cy, .int .i64 yo, .int .i64 yr, .int .i64 yk, .int .i64 yl] 26)) 26 #[.slice Az nz cz, .int .i64 zo, .int .i64 zr, .int .i64 zk, .int .i64 zl] (w.heap.size + 1 + 1 + 1) (by simp))
  have HB0 := Lib.hid (((((Below.refl w.heap.size w).alloc (Nat.le_refl _) (.cells #[.int .i64 s1, .int .i64 s2, .int .i64 s3] 31)).alloc (by simp) (.cells #[.slice Ax nx cx, .int .i64 xo, .int .i64 xr, .int .i64 xk, .int .i64 xl] 26)).alloc (by simp; omega) (.cells #[.slice Ay ny cy, .int .i64 yo, .int .i64 yr, .int .i64 yk, .int .i64 yl] 26)).alloc (by simp; omega) (.cells #[.slice Az nz cz, .int .i64 zo, .int .i64 zr, .int .i64 zk, .int .i64 zl] 26))
  obtain ⟨u0, u1, u2⟩ := cells3v HS0.out
  obtain ⟨x0, x1, x2, x3, x4⟩ := cells5 HX0.out
  obtain ⟨y0, y1, y2, y3, y4⟩ := cells5 HY0.out
  obtain ⟨z0, z1, z2, z3, z4⟩ := cells5 HZ0.out
  have HA0 := Lib.hid (Blk.new_ ((((w.alloc (.cells #[.int .i64 s1, .int .i64 s2, .int .i64 s3] 31)).alloc (.cells #[.slice Ax nx cx, .int .i64 xo, .int .i64 xr, .int .i64 xk, .int .i64 xl] 26)).alloc (.cells #[.slice Ay ny cy, .int .i64 yo, .int .i64 yr, .int .i64 yk, .int .i64 yl] 26)).alloc (.cells #[.slice Az nz cz, .int .i64 zo, .int .i64 zr, .int .i64 zk, .int .i64 zl] 26)) 48 #[.int .i64 0, .int .i64 0, .int .i64 0, .float .f64 0, .slice none 0 0, .int .i64 0, .int .i64 0, .int .i64 0, .int .i64 0, .slice none 0 0, .int .i64 0, .int .i64 0, .int .i64 0, .int .i64 0, .slice none 0 0, .int .i64 0, .int .i64 0, .int .i64 0, .int .i64 0] (w.heap.size + 1 + 1 + 1 + 1) (by simp))
  have HZa := Lib.hid (HZ0.out.alloc (.cells #[.int .i64 0, .int .i64 0, .int .i64 0, .float .f64 0, .slice none 0 0, .int .i64 0, .int .i64 0, .int .i64 0, .int .i64 0, .slice none 0 0, .int .i64 0, .int .i64 0, .int .i64 0, .int .i64 0, .slice none 0 0, .int .i64 0, .int .i64 0, .int .i64 0, .int .i64 0] 48))
  have HBa := Lib.hid (below_al HB0.out (o := .cells #[.int .i64 0, .int .i64 0, .int .i64 0, .float .f64 0, .slice none 0 0, .int .i64 0, .int .i64 0, .int .i64 0, .int .i64 0, .slice none 0 0, .int .i64 0, .int .i64 0, .int .i64 0, .int .i64 0, .slice none 0 0, .int .i64 0, .int .i64 0, .int .i64 0, .int .i64 0] 48))
  have Hzq := Lib.hid (show w.heap.size ≤ w.heap.size + 1 + 1 + 1 + 1 by omega)
  have Hzn := Lib.hid (show w.heap.size + 1 + 1 + 1 ≠ w.heap.size + 1 + 1 + 1 + 1 by omega)
  go_wp2_with (refine wpList_store_new rfl 48 (.tmp 13) (.tmp 20) rfl (w.heap.size + 1 + 1 + 1 + 1) #[.int .i64 s1, .int .i64 s2, .int .i64 s3, .float .f64 a, .slice Ax nx cx, .int .i64 xo, .int .i64 xr, .int .i64 xk, .int .i64 xl, .slice Ay ny cy, .int .i64 yo, .int .i64 yr, .int .i64 yk, .int .i64 yl, .slice Az nz cz, .int .i64 zo, .int .i64 zr, .int .i64 zk, .int .i64 zl] rfl rfl HA0.out rfl ?hi ?h1 ?_)
  case hi => kernel_rfl
  case h1 => simp [Value.oneCell']
  intro w1 hw1 hw2 hw3
  have HQ0 := Lib.hid hw1
  have HZ1 := Lib.hid (hw2 _ _ _ Hzn.out HZa.out)
  have HB1 := Lib.hid (hw3 _ _ Hzq.out HBa.out)
  clear hw1 hw2 hw3 HX0 HY0 HS0 HZ0 HB0 HA0 HZa HBa Hzn u0 u1 u2 x0 x1 x2 x3 x4 y0 y1 y2 y3 y4 z0 z1 z2 z3 z4
  generalize hq : w.heap.size + 1 + 1 + 1 + 1 = zq at *
  clear hq
  obtain ⟨du, hdu, hdr⟩ := und_prod
  go_wp2_with (refine wpList_load_blk rfl 48 (.tmp 13) rfl zq rfl HQ0.out du hdu hdr (by kernel_rfl) ?_)
  refine (HF.out _ HB1.out).mono ?_
  rintro e w2 ⟨rfl, hb⟩
  have HB2 := Lib.hid (below_nx HB1.out hb)
  have HQ1 := Lib.hid (HQ0.out.nxt hb)
  have HZ2 := Lib.hid (HZ1.out.nxt hb)
  clear hb HB1 HQ0 HZ1
  obtain ⟨z0, z1, z2, z3, z4⟩ := cells5 HZ2.out
  go_wp2_with fail
  go_ret
  exact ⟨rfl, HB2.out⟩

set_option maxRecDepth 100000 in
set_option maxHeartbeats 2000000 in
theorem bkmul_none (s1 s2 s3 : Int) (a b : Nat) (Ax : Option Addr) (nx cx : Nat) (xo xr xk xl : Int) (Ay : Option Addr) (ny cy : Nat) (yo yr yk yl : Int) (Az : Option Addr) (nz cz : Nat) (zo zr zk zl : Int) (w : World) (h : zr = 0 ∨ zk = 0) (hF : ∀ W, Below w.heap.size w W → Calls Try.prog 18 #[.agg #[.int .i64 s1, .int .i64 s2, .int .i64 s3, .float .f64 a, .slice Ax nx cx, .int .i64 xo, .int .i64 xr, .int .i64 xk, .int .i64 xl, .slice Ay ny cy, .int .i64 yo, .int .i64 yr, .int .i64 yk, .int .i64 yl, .slice Az nz cz, .int .i64 zo, .int .i64 zr, .int .i64 zk, .int .i64 zl]] W fun e w' => e = .returned (.int .i64 0) ∧ Below W.heap.size W w') :
    Calls Try.prog 9 #[.agg #[.int .i64 s1, .int .i64 s2, .int .i64 s3], .float .f64 a, mat Ax nx cx xo xr xk xl, mat Ay ny cy yo yr yk yl, .float .f64 b, mat Az nz cz zo zr zk zl] w fun e w' => e = .returned (.int .i64 0) ∧ Below w.heap.size w w' := by
  have HF := Lib.hid hF
  obtain ⟨b1, hb1⟩ : ∃ v, (zr == 0) = v := ⟨_, rfl⟩
  obtain ⟨b2, hb2⟩ : ∃ v, (zk == 0) = v := ⟨_, rfl⟩
  have hh : b1 = true ∨ (b1 = false ∧ b2 = true) := by
    rw [← hb1, ← hb2]
    rcases h with h | h
    · left; simp [h]
    · by_cases e : zr = 0
      · left; simp [e]
      · right; simp [e, h]
  clear hF h
  unfold mat at *
  rcases hh with rfl | ⟨rfl, rfl⟩
  · clear hb2
    go_enter Try.func9, Try.ntmps9
    have HS0 := Lib.hid ((((Blk.new w 31 #[.int .i64 s1, .int .i64 s2, .int .i64 s3]).alloc (.cells #[.slice Ax nx cx, .int .i64 xo, .int .i64 xr, .int .i64 xk, .int .i64 xl] 26)).alloc (.cells #[.slice Ay ny cy, .int .i64 yo, .int .i64 yr, .int .i64 yk, .int .i64 yl] 26)).alloc (.cells #[.slice Az nz cz, .int .i64 zo, .int .i64 zr, .int .i64 zk, .int .i64 zl] 26))
    have HX0 := Lib.hid (((Blk.new_ (w.alloc (.cells #[.int .i64 s1, .int .i64 s2, .int .i64 s3] 31)) 26 #[.slice Ax nx cx, .int .i64 xo, .int .i64 xr, .int .i64 xk, .int .i64 xl] (w.heap.size + 1) (by simp)).alloc (.cells #[.slice Ay ny cy, .int .i64 yo, .int .i64 yr, .int .i64 yk, .int .i64 yl] 26)).alloc (.cells #[.slice Az nz cz, .int .i64 zo, .int .i64 zr, .int .i64 zk, .int .i64 zl] 26))
    have HY0 := Lib.hid ((Blk.new_ ((w.alloc (.cells #[.int .i64 s1, .int .i64 s2, .int .i64 s3] 31)).alloc (.cells #[.slice Ax nx cx, .int .i64 xo, .int .i64 xr, .int .i64 xk, .int .i64 xl] 26)) 26 #[.slice Ay ny cy, .int .i64 yo, .int .i64 yr, .int .i64 yk, .int .i64 yl] (w.heap.size + 1 + 1) (by simp)).alloc (.cells #[.slice Az nz cz, .int .i64 zo, .int .i64 zr, .int .i64 zk, .int .i64 zl] 26))
    have HZ0 := Lib.hid (Blk.new_ (((w.alloc (.cells #[.int .i64 s1, .int .i64 s2, .int .i64 s3] 31)).alloc (.cells #[.slice Ax nx cx, .int .i64 xo, .int .i64 xr, .int .i64 xk, .int .i64 xl] 26)).alloc (.cells #[.slice Ay ny cy, .int .i64 yo, .int .i64 yr, .int .i64 yk, .int .i64 yl] 26)) 26 #[.slice Az nz cz, .int .i64 zo, .int .i64 zr, .int .i64 zk, .int .i64 zl] (w.heap.size + 1 + 1 + 1) (by simp))
    have HB0 := Lib.hid (((((Below.refl w.heap.size w).alloc (Nat.le_refl _) (.cells #[.int .i64 s1, .int .i64 s2, .int .i64 s3] 31)).alloc (by simp) (.cells #[.slice Ax nx cx, .int .i64 xo, .int .i64 xr, .int .i64 xk, .int .i64 xl] 26)).alloc (by simp; omega) (.cells #[.slice Ay ny cy, .int .i64 yo, .int .i64 yr, .int .i64 yk, .int .i64 yl] 26)).alloc (by simp; omega) (.cells #[.slice Az nz cz, .int .i64 zo, .int .i64 zr, .int .i64 zk, .int .i64 zl] 26))
    obtain ⟨u0, u1, u2⟩ := cells3v HS0.out
    obtain ⟨x0, x1, x2, x3, x4⟩ := cells5 HX0.out
    obtain ⟨y0, y1, y2, y3, y4⟩ := cells5 HY0.out
    obtain ⟨z0, z1, z2, z3, z4⟩ := cells5 HZ0.out
    have HA0 := Lib.hid (Blk.new_ ((((w.alloc (.cells #[.int .i64 s1, .int .i64 s2, .int .i64 s3] 31)).alloc (.cells #[.slice Ax nx cx, .int .i64 xo, .int .i64 xr, .int .i64 xk, .int .i64 xl] 26)).alloc (.cells #[.slice Ay ny cy, .int .i64 yo, .int .i64 yr, .int .i64 yk, .int .i64 yl] 26)).alloc (.cells #[.slice Az nz cz, .int .i64 zo, .int .i64 zr, .int .i64 zk, .int .i64 zl] 26)) 48 #[.int .i64 0, .int .i64 0, .int .i64 0, .float .f64 0, .slice none 0 0, .int .i64 0, .int .i64 0, .int .i64 0, .int .i64 0, .slice none 0 0, .int .i64 0, .int .i64 0, .int .i64 0, .int .i64 0, .slice none 0 0, .int .i64 0, .int .i64 0, .int .i64 0, .int .i64 0] (w.heap.size + 1 + 1 + 1 + 1) (by simp))
    have HZa := Lib.hid (HZ0.out.alloc (.cells #[.int .i64 0, .int .i64 0, .int .i64 0, .float .f64 0, .slice none 0 0, .int .i64 0, .int .i64 0, .int .i64 0, .int .i64 0, .slice none 0 0, .int .i64 0, .int .i64 0, .int .i64 0, .int .i64 0, .slice none 0 0, .int .i64 0, .int .i64 0, .int .i64 0, .int .i64 0] 48))
    have HBa := Lib.hid (below_al HB0.out (o := .cells #[.int .i64 0, .int .i64 0, .int .i64 0, .float .f64 0, .slice none 0 0, .int .i64 0, .int .i64 0, .int .i64 0, .int .i64 0, .slice none 0 0, .int .i64 0, .int .i64 0, .int .i64 0, .int .i64 0, .slice none 0 0, .int .i64 0, .int .i64 0, .int .i64 0, .int .i64 0] 48))
    have Hzq := Lib.hid (show w.heap.size ≤ w.heap.size + 1 + 1 + 1 + 1 by omega)
    have Hzn := Lib.hid (show w.heap.size + 1 + 1 + 1 ≠ w.heap.size + 1 + 1 + 1 + 1 by omega)
    go_wp2_with (refine wpList_store_new rfl 48 (.tmp 13) (.tmp 20) rfl (w.heap.size + 1 + 1 + 1 + 1) #[.int .i64 s1, .int .i64 s2, .int .i64 s3, .float .f64 a, .slice Ax nx cx, .int .i64 xo, .int .i64 xr, .int .i64 xk, .int .i64 xl, .slice Ay ny cy, .int .i64 yo, .int .i64 yr, .int .i64 yk, .int .i64 yl, .slice Az nz cz, .int .i64 zo, .int .i64 zr, .int .i64 zk, .int .i64 zl] rfl rfl HA0.out rfl ?hi ?h1 ?_)
    case hi => kernel_rfl
    case h1 => simp [Value.oneCell']
    intro w1 hw1 hw2 hw3
    have HQ0 := Lib.hid hw1
    have HZ1 := Lib.hid (hw2 _ _ _ Hzn.out HZa.out)
    have HB1 := Lib.hid (hw3 _ _ Hzq.out HBa.out)
    clear hw1 hw2 hw3 HX0 HY0 HS0 HZ0 HB0 HA0 HZa HBa Hzn u0 u1 u2 x0 x1 x2 x3 x4 y0 y1 y2 y3 y4 z0 z1 z2 z3 z4
    generalize hq : w.heap.size + 1 + 1 + 1 + 1 = zq at *
    clear hq
    obtain ⟨du, hdu, hdr⟩ := und_prod
    go_wp2_with (refine wpList_load_blk rfl 48 (.tmp 13) rfl zq rfl HQ0.out du hdu hdr (by kernel_rfl) ?_)
    refine (HF.out _ HB1.out).mono ?_
    rintro e w2 ⟨rfl, hb⟩
    have HB2 := Lib.hid (below_nx HB1.out hb)
    have HQ1 := Lib.hid (HQ0.out.nxt hb)
    have HZ2 := Lib.hid (HZ1.out.nxt hb)
    clear hb HB1 HQ0 HZ1
    obtain ⟨z0, z1, z2, z3, z4⟩ := cells5 HZ2.out
    go_wp2_with fail
    go_ret
    exact ⟨rfl, HB2.out⟩
  · skip
    go_enter Try.func9, Try.ntmps9
    have HS0 := Lib.hid ((((Blk.new w 31 #[.int .i64 s1, .int .i64 s2, .int .i64 s3]).alloc (.cells #[.slice Ax nx cx, .int .i64 xo, .int .i64 xr, .int .i64 xk, .int .i64 xl] 26)).alloc (.cells #[.slice Ay ny cy, .int .i64 yo, .int .i64 yr, .int .i64 yk, .int .i64 yl] 26)).alloc (.cells #[.slice Az nz cz, .int .i64 zo, .int .i64 zr, .int .i64 zk, .int .i64 zl] 26))
    have HX0 := Lib.hid (((Blk.new_ (w.alloc (.cells #[.int .i64 s1, .int .i64 s2, .int .i64 s3] 31)) 26 #[.slice Ax nx cx, .int .i64 xo, .int .i64 xr, .int .i64 xk, .int .i64 xl] (w.heap.size + 1) (by simp)).alloc (.cells #[.slice Ay ny cy, .int .i64 yo, .int .i64 yr, .int .i64 yk, .int .i64 yl] 26)).alloc (.cells #[.slice Az nz cz, .int .i64 zo, .int .i64 zr, .int .i64 zk, .int .i64 zl] 26))
    have HY0 := Lib.hid ((Blk.new_ ((w.alloc (.cells #[.int .i64 s1, .int .i64 s2, .int .i64 s3] 31)).alloc (.cells #[.slice Ax nx cx, .int .i64 xo, .int .i64 xr, .int .i64 xk, .int .i64 xl] 26)) 26 #[.slice Ay ny cy, .int .i64 yo, .int .i64 yr, .int .i64 yk, .int .i64 yl] (w.heap.size + 1 + 1) (by simp)).alloc (.cells #[.slice Az nz cz, .int .i64 zo, .int .i64 zr, .int .i64 zk, .int .i64 zl] 26))
    have HZ0 := Lib.hid (Blk.new_ (((w.alloc (.cells #[.int .i64 s1, .int .i64 s2, .int .i64 s3] 31)).alloc (.cells #[.slice Ax nx cx, .int .i64 xo, .int .i64 xr, .int .i64 xk, .int .i64 xl] 26)).alloc (.cells #[.slice Ay ny cy, .int .i64 yo, .int .i64 yr, .int .i64 yk, .int .i64 yl] 26)) 26 #[.slice Az nz cz, .int .i64 zo, .int .i64 zr, .int .i64 zk, .int .i64 zl] (w.heap.size + 1 + 1 + 1) (by simp))
    have HB0 := Lib.hid (((((Below.refl w.heap.size w).alloc (Nat.le_refl _) (.cells #[.int .i64 s1, .int .i64 s2, .int .i64 s3] 31)).alloc (by simp) (.cells #[.slice Ax nx cx, .int .i64 xo, .int .i64 xr, .int .i64 xk, .int .i64 xl] 26)).alloc (by simp; omega) (.cells #[.slice Ay ny cy, .int .i64 yo, .int .i64 yr, .int .i64 yk, .int .i64 yl] 26)).alloc (by simp; omega) (.cells #[.slice Az nz cz, .int .i64 zo, .int .i64 zr, .int .i64 zk, .int .i64 zl] 26))
    obtain ⟨u0, u1, u2⟩ := cells3v HS0.out
    obtain ⟨x0, x1, x2, x3, x4⟩ := cells5 HX0.out
    obtain ⟨y0, y1, y2, y3, y4⟩ := cells5 HY0.out
    obtain ⟨z0, z1, z2, z3, z4⟩ := cells5 HZ0.out
    have HA0 := Lib.hid (Blk.new_ ((((w.alloc (.cells #[.int .i64 s1, .int .i64 s2, .int .i64 s3] 31)).alloc (.cells #[.slice Ax nx cx, .int .i64 xo, .int .i64 xr, .int .i64 xk, .int .i64 xl] 26)).alloc (.cells #[.slice Ay ny cy, .int .i64 yo, .int .i64 yr, .int .i64 yk, .int .i64 yl] 26)).alloc (.cells #[.slice Az nz cz, .int .i64 zo, .int .i64 zr, .int .i64 zk, .int .i64 zl] 26)) 48 #[.int .i64 0, .int .i64 0, .int .i64 0, .float .f64 0, .slice none 0 0, .int .i64 0, .int .i64 0, .int .i64 0, .int .i64 0, .slice none 0 0, .int .i64 0, .int .i64 0, .int .i64 0, .int .i64 0, .slice none 0 0, .int .i64 0, .int .i64 0, .int .i64 0, .int .i64 0] (w.heap.size + 1 + 1 + 1 + 1) (by simp))
    have HZa := Lib.hid (HZ0.out.alloc (.cells #[.int .i64 0, .int .i64 0, .int .i64 0, .float .f64 0, .slice none 0 0, .int .i64 0, .int .i64 0, .int .i64 0, .int .i64 0, .slice none 0 0, .int .i64 0, .int .i64 0, .int .i64 0, .int .i64 0, .slice none 0 0, .int .i64 0, .int .i64 0, .int .i64 0, .int .i64 0] 48))
    have HBa := Lib.hid (below_al HB0.out (o := .cells #[.int .i64 0, .int .i64 0, .int .i64 0, .float .f64 0, .slice none 0 0, .int .i64 0, .int .i64 0, .int .i64 0, .int .i64 0, .slice none 0 0, .int .i64 0, .int .i64 0, .int .i64 0, .int .i64 0, .slice none 0 0, .int .i64 0, .int .i64 0, .int .i64 0, .int .i64 0] 48))
    have Hzq := Lib.hid (show w.heap.size ≤ w.heap.size + 1 + 1 + 1 + 1 by omega)
    have Hzn := Lib.hid (show w.heap.size + 1 + 1 + 1 ≠ w.heap.size + 1 + 1 + 1 + 1 by omega)
    go_wp2_with (refine wpList_store_new rfl 48 (.tmp 13) (.tmp 20) rfl (w.heap.size + 1 + 1 + 1 + 1) #[.int .i64 s1, .int .i64 s2, .int .i64 s3, .float .f64 a, .slice Ax nx cx, .int .i64 xo, .int .i64 xr, .int .i64 xk, .int .i64 xl, .slice Ay ny cy, .int .i64 yo, .int .i64 yr, .int .i64 yk, .int .i64 yl, .slice Az nz cz, .int .i64 zo, .int .i64 zr, .int .i64 zk, .int .i64 zl] rfl rfl HA0.out rfl ?hi ?h1 ?_)
    case hi => kernel_rfl
    case h1 => simp [Value.oneCell']
    intro w1 hw1 hw2 hw3
    have HQ0 := Lib.hid hw1
    have HZ1 := Lib.hid (hw2 _ _ _ Hzn.out HZa.out)
    have HB1 := Lib.hid (hw3 _ _ Hzq.out HBa.out)
    clear hw1 hw2 hw3 HX0 HY0 HS0 HZ0 HB0 HA0 HZa HBa Hzn u0 u1 u2 x0 x1 x2 x3 x4 y0 y1 y2 y3 y4 z0 z1 z2 z3 z4
    generalize hq : w.heap.size + 1 + 1 + 1 + 1 = zq at *
    clear hq
    obtain ⟨du, hdu, hdr⟩ := und_prod
    go_wp2_with (refine wpList_load_blk rfl 48 (.tmp 13) rfl zq rfl HQ0.out du hdu hdr (by kernel_rfl) ?_)
    refine (HF.out _ HB1.out).mono ?_
    rintro e w2 ⟨rfl, hb⟩
    have HB2 := Lib.hid (below_nx HB1.out hb)
    have HQ1 := Lib.hid (HQ0.out.nxt hb)
    have HZ2 := Lib.hid (HZ1.out.nxt hb)
    clear hb HB1 HQ0 HZ1
    obtain ⟨z0, z1, z2, z3, z4⟩ := cells5 HZ2.out
    go_wp2_with fail
    go_ret
    exact ⟨rfl, HB2.out⟩

set_option maxRecDepth 100000 in
set_option maxHeartbeats 2000000 in
theorem bkmul_ok (s1 s2 s3 : Nat) (a b : Nat) (Ax : Option Addr) (nx cx om Lm : Nat) (Ay : Option Addr) (ny cy oy Ly : Nat) (g c n : Nat) (l : List Nat) (o L R K C : Nat) (f gg : Nat → Nat → Nat) (w : World) (hg : g < w.heap.size) (hR : R ≠ 0) (hC : C ≠ 0) (hF : ∀ W, Below w.heap.size w W → Calls Try.prog 18 #[.agg #[.int .i64 (s1 : Int), .int .i64 (s2 : Int), .int .i64 (s3 : Int), .float .f64 a, .slice Ax nx cx, .int .i64 (om : Int), .int .i64 (R : Int), .int .i64 (K : Int), .int .i64 (Lm : Int), .slice Ay ny cy, .int .i64 (oy : Int), .int .i64 (K : Int), .int .i64 (C : Int), .int .i64 (Ly : Int), .slice (some ⟨g, 0, none⟩) n c, .int .i64 (o : Int), .int .i64 (R : Int), .int .i64 (C : Int), .int .i64 (L : Int)]] W fun e w' => e = .returned (.int .i64 0) ∧ Below W.heap.size W w')
    (hBg : ∀ W, Below w.heap.size w W → Calls Try.prog 19 #[.agg #[.int .i64 (s1 : Int), .int .i64 (s2 : Int), .int .i64 (s3 : Int), .float .f64 a, .slice Ax nx cx, .int .i64 (om : Int), .int .i64 (R : Int), .int .i64 (K : Int), .int .i64 (Lm : Int), .slice Ay ny cy, .int .i64 (oy : Int), .int .i64 (K : Int), .int .i64 (C : Int), .int .i64 (Ly : Int), .slice (some ⟨g, 0, none⟩) n c, .int .i64 (o : Int), .int .i64 (R : Int), .int .i64 (C : Int), .int .i64 (L : Int)], .float .f64 b] W fun e w' => e = .returned (.tuple #[]) ∧ BkT a b g l o R C L f gg W (fun _ _ => 0) w')
    (hAd : ∀ W l0, Own W g l0 → Imr l o R C L (BkP a b l o L f gg (fun _ _ => 0)) l0 → Chg [g] w W → Calls Try.prog 20 #[.agg #[.int .i64 (s1 : Int), .int .i64 (s2 : Int), .int .i64 (s3 : Int), .float .f64 a, .slice Ax nx cx, .int .i64 (om : Int), .int .i64 (R : Int), .int .i64 (K : Int), .int .i64 (Lm : Int), .slice Ay ny cy, .int .i64 (oy : Int), .int .i64 (K : Int), .int .i64 (C : Int), .int .i64 (Ly : Int), .slice (some ⟨g, 0, none⟩) n c, .int .i64 (o : Int), .int .i64 (R : Int), .int .i64 (C : Int), .int .i64 (L : Int)]] W fun e w' => e = .returned (.tuple #[]) ∧ BkT a b g l o R C L f gg W (fun _ _ => K) w') :
    Calls Try.prog 9 #[.agg #[.int .i64 (s1 : Int), .int .i64 (s2 : Int), .int .i64 (s3 : Int)], .float .f64 a, mat Ax nx cx om R K Lm, mat Ay ny cy oy K C Ly, .float .f64 b, mat (some ⟨g, 0, none⟩) n c o R C L] w fun e w' => e = .returned (.int .i64 0) ∧ BkT a b g l o R C L f gg w (fun _ _ => K) w' := by
  have HF := Lib.hid hF
  have HBg := Lib.hid hBg
  have HAd := Lib.hid hAd
  have Hg := Lib.hid hg
  have hR1 : ((R : Int) == 0) = false := by simp [hR]
  have hC1 : ((C : Int) == 0) = false := by simp [hC]
  clear hF hBg hAd hg hR hC
  unfold mat at *
  go_enter Try.func9, Try.ntmps9
  have HS0 := Lib.hid ((((Blk.new w 31 #[.int .i64 (s1 : Int), .int .i64 (s2 : Int), .int .i64 (s3 : Int)]).alloc (.cells #[.slice Ax nx cx, .int .i64 (om : Int), .int .i64 (R : Int), .int .i64 (K : Int), .int .i64 (Lm : Int)] 26)).alloc (.cells #[.slice Ay ny cy, .int .i64 (oy : Int), .int .i64 (K : Int), .int .i64 (C : Int), .int .i64 (Ly : Int)] 26)).alloc (.cells #[.slice (some ⟨g, 0, none⟩) n c, .int .i64 (o : Int), .int .i64 (R : Int), .int .i64 (C : Int), .int .i64 (L : Int)] 26))
  have HX0 := Lib.hid (((Blk.new_ (w.alloc (.cells #[.int .i64 (s1 : Int), .int .i64 (s2 : Int), .int .i64 (s3 : Int)] 31)) 26 #[.slice Ax nx cx, .int .i64 (om : Int), .int .i64 (R : Int), .int .i64 (K : Int), .int .i64 (Lm : Int)] (w.heap.size + 1) (by simp)).alloc (.cells #[.slice Ay ny cy, .int .i64 (oy : Int), .int .i64 (K : Int), .int .i64 (C : Int), .int .i64 (Ly : Int)] 26)).alloc (.cells #[.slice (some ⟨g, 0, none⟩) n c, .int .i64 (o : Int), .int .i64 (R : Int), .int .i64 (C : Int), .int .i64 (L : Int)] 26))
  have HY0 := Lib.hid ((Blk.new_ ((w.alloc (.cells #[.int .i64 (s1 : Int), .int .i64 (s2 : Int), .int .i64 (s3 : Int)] 31)).alloc (.cells #[.slice Ax nx cx, .int .i64 (om : Int), .int .i64 (R : Int), .int .i64 (K : Int), .int .i64 (Lm : Int)] 26)) 26 #[.slice Ay ny cy, .int .i64 (oy : Int), .int .i64 (K : Int), .int .i64 (C : Int), .int .i64 (Ly : Int)] (w.heap.size + 1 + 1) (by simp)).alloc (.cells #[.slice (some ⟨g, 0, none⟩) n c, .int .i64 (o : Int), .int .i64 (R : Int), .int .i64 (C : Int), .int .i64 (L : Int)] 26))
  have HZ0 := Lib.hid (Blk.new_ (((w.alloc (.cells #[.int .i64 (s1 : Int), .int .i64 (s2 : Int), .int .i64 (s3 : Int)] 31)).alloc (.cells #[.slice Ax nx cx, .int .i64 (om : Int), .int .i64 (R : Int), .int .i64 (K : Int), .int .i64 (Lm : Int)] 26)).alloc (.cells #[.slice Ay ny cy, .int .i64 (oy : Int), .int .i64 (K : Int), .int .i64 (C : Int), .int .i64 (Ly : Int)] 26)) 26 #[.slice (some ⟨g, 0, none⟩) n c, .int .i64 (o : Int), .int .i64 (R : Int), .int .i64 (C : Int), .int .i64 (L : Int)] (w.heap.size + 1 + 1 + 1) (by simp))
  have HB0 := Lib.hid (((((Below.refl w.heap.size w).alloc (Nat.le_refl _) (.cells #[.int .i64 (s1 : Int), .int .i64 (s2 : Int), .int .i64 (s3 : Int)] 31)).alloc (by simp) (.cells #[.slice Ax nx cx, .int .i64 (om : Int), .int .i64 (R : Int), .int .i64 (K : Int), .int .i64 (Lm : Int)] 26)).alloc (by simp; omega) (.cells #[.slice Ay ny cy, .int .i64 (oy : Int), .int .i64 (K : Int), .int .i64 (C : Int), .int .i64 (Ly : Int)] 26)).alloc (by simp; omega) (.cells #[.slice (some ⟨g, 0, none⟩) n c, .int .i64 (o : Int), .int .i64 (R : Int), .int .i64 (C : Int), .int .i64 (L : Int)] 26))
  obtain ⟨u0, u1, u2⟩ := cells3v HS0.out
  obtain ⟨x0, x1, x2, x3, x4⟩ := cells5 HX0.out
  obtain ⟨y0, y1, y2, y3, y4⟩ := cells5 HY0.out
  obtain ⟨z0, z1, z2, z3, z4⟩ := cells5 HZ0.out
  have HA0 := Lib.hid (Blk.new_ ((((w.alloc (.cells #[.int .i64 (s1 : Int), .int .i64 (s2 : Int), .int .i64 (s3 : Int)] 31)).alloc (.cells #[.slice Ax nx cx, .int .i64 (om : Int), .int .i64 (R : Int), .int .i64 (K : Int), .int .i64 (Lm : Int)] 26)).alloc (.cells #[.slice Ay ny cy, .int .i64 (oy : Int), .int .i64 (K : Int), .int .i64 (C : Int), .int .i64 (Ly : Int)] 26)).alloc (.cells #[.slice (some ⟨g, 0, none⟩) n c, .int .i64 (o : Int), .int .i64 (R : Int), .int .i64 (C : Int), .int .i64 (L : Int)] 26)) 48 #[.int .i64 0, .int .i64 0, .int .i64 0, .float .f64 0, .slice none 0 0, .int .i64 0, .int .i64 0, .int .i64 0, .int .i64 0, .slice none 0 0, .int .i64 0, .int .i64 0, .int .i64 0, .int .i64 0, .slice none 0 0, .int .i64 0, .int .i64 0, .int .i64 0, .int .i64 0] (w.heap.size + 1 + 1 + 1 + 1) (by simp))
  have HZa := Lib.hid (HZ0.out.alloc (.cells #[.int .i64 0, .int .i64 0, .int .i64 0, .float .f64 0, .slice none 0 0, .int .i64 0, .int .i64 0, .int .i64 0, .int .i64 0, .slice none 0 0, .int .i64 0, .int .i64 0, .int .i64 0, .int .i64 0, .slice none 0 0, .int .i64 0, .int .i64 0, .int .i64 0, .int .i64 0] 48))
  have HBa := Lib.hid (below_al HB0.out (o := .cells #[.int .i64 0, .int .i64 0, .int .i64 0, .float .f64 0, .slice none 0 0, .int .i64 0, .int .i64 0, .int .i64 0, .int .i64 0, .slice none 0 0, .int .i64 0, .int .i64 0, .int .i64 0, .int .i64 0, .slice none 0 0, .int .i64 0, .int .i64 0, .int .i64 0, .int .i64 0] 48))
  have Hzq := Lib.hid (show w.heap.size ≤ w.heap.size + 1 + 1 + 1 + 1 by omega)
  have Hzn := Lib.hid (show w.heap.size + 1 + 1 + 1 ≠ w.heap.size + 1 + 1 + 1 + 1 by omega)
  go_wp2_with (refine wpList_store_new rfl 48 (.tmp 13) (.tmp 20) rfl (w.heap.size + 1 + 1 + 1 + 1) #[.int .i64 (s1 : Int), .int .i64 (s2 : Int), .int .i64 (s3 : Int), .float .f64 a, .slice Ax nx cx, .int .i64 (om : Int), .int .i64 (R : Int), .int .i64 (K : Int), .int .i64 (Lm : Int), .slice Ay ny cy, .int .i64 (oy : Int), .int .i64 (K : Int), .int .i64 (C : Int), .int .i64 (Ly : Int), .slice (some ⟨g, 0, none⟩) n c, .int .i64 (o : Int), .int .i64 (R : Int), .int .i64 (C : Int), .int .i64 (L : Int)] rfl rfl HA0.out rfl ?hi ?h1 ?_)
  case hi => kernel_rfl
  case h1 => simp [Value.oneCell']
  intro w1 hw1 hw2 hw3
  have HQ0 := Lib.hid hw1
  have HZ1 := Lib.hid (hw2 _ _ _ Hzn.out HZa.out)
  have HB1 := Lib.hid (hw3 _ _ Hzq.out HBa.out)
  clear hw1 hw2 hw3 HX0 HY0 HS0 HZ0 HB0 HA0 HZa HBa Hzn u0 u1 u2 x0 x1 x2 x3 x4 y0 y1 y2 y3 y4 z0 z1 z2 z3 z4
  generalize hq : w.heap.size + 1 + 1 + 1 + 1 = zq at *
  clear hq
  obtain ⟨du, hdu, hdr⟩ := und_prod
  go_wp2_with (refine wpList_load_blk rfl 48 (.tmp 13) rfl zq rfl HQ0.out du hdu hdr (by kernel_rfl) ?_)
  refine (HF.out _ HB1.out).mono ?_
  rintro e w2 ⟨rfl, hb⟩
  have HB2 := Lib.hid (below_nx HB1.out hb)
  have HQ1 := Lib.hid (HQ0.out.nxt hb)
  have HZ2 := Lib.hid (HZ1.out.nxt hb)
  clear hb HB1 HQ0 HZ1
  obtain ⟨z0, z1, z2, z3, z4⟩ := cells5 HZ2.out
  have Hz := Lib.hid (show g < zq from by have := Hg.out; have := Hzq.out; omega)
  go_wp2_with (refine wpList_load_blk rfl 48 (.tmp 13) rfl zq rfl HQ1.out du hdu hdr (by kernel_rfl) ?_)
  refine (HBg.out _ HB2.out).mono ?_
  rintro e w3 ⟨rfl, l0, h1, h2, h3⟩
  have HO3 := Lib.hid h1
  have HI3 := Lib.hid h2
  have HC3 := Lib.hid ((Chg.of_below HB2.out).trans h3)
  have HQ3 := Lib.hid (h3.blk (by have := Hz.out; simp; omega) HQ1.out)
  clear h1 h2 h3 z0 z1 z2 z3 z4 HQ1 HZ2
  go_wp2_with (refine wpList_load_blk rfl 48 (.tmp 13) rfl zq rfl HQ3.out du hdu hdr (by kernel_rfl) ?_)
  refine (HAd.out _ l0 HO3.out HI3.out HC3.out).mono ?_
  rintro e w4 ⟨rfl, l1, h1, h2, h3⟩
  have HR := Lib.hid (show BkT a b g l o R C L f gg w (fun _ _ => K) w4 from ⟨l1, h1, h2, HC3.out.trans h3⟩)
  clear h1 h2 h3
  go_wp2_with fail
  go_ret
  exact ⟨rfl, HR.out⟩
end Go.Proofs.Ytbeefnekblepfaa
