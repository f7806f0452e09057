/-
Block's laws: what is great; what the law finds wrong; right sizes. Conditions: as each says.
-/
import Derived.Test.YtbeefnekblepfaaUbac
import Derived.Test.YtbeefnekblepfaaUaal
import Derived.Test.YtbeefnekblepfaaZBkB
set_option linter.unusedVariables false
set_option linter.unusedSimpArgs false
set_option linter.unnecessarySimpa false
namespace Go.Proofs.Ytbeefnekblepfaa
open Go.RowKit
attribute [local go_sem ↓] Go.wp_at_zero Go.wp_at_succ

set_option maxHeartbeats 2000000 in
theorem bgreat_any (Ax : Option Addr) (nx cx : Nat) (xo xr xk xl : Int) (Ay : Option Addr) (ny cy : Nat) (yo yr yk yl : Int) (Az : Option Addr) (nz cz : Nat) (zo zr zk zl : Int) (w : World) :
    Calls Try.prog 6 #[mat Ax nx cx xo xr xk xl, mat Ay ny cy yo yr yk yl, mat Az nz cz zo zr zk zl] w fun e w' => e = .returned (.bool (greatB nx xr xk || greatB ny yr yk || greatB nz zr zk)) ∧ Below w.heap.size w w' := by
  have HGx := Lib.hid (fun W => great_any Ax nx cx xo xr xk xl W)
  have HGy := Lib.hid (fun W => great_any Ay ny cy yo yr yk yl W)
  have HGz := Lib.hid (fun W => great_any Az nz cz zo zr zk zl W)
  generalize greatB nx xr xk = b1 at *
  generalize greatB ny yr yk = b2 at *
  generalize greatB nz zr zk = b3 at *
  unfold mat at *
  have key : b1 = true ∨ (b1 = false ∧ b2 = true) ∨ (b1 = false ∧ b2 = false) := by cases b1 <;> cases b2 <;> simp
  rcases key with rfl | ⟨rfl, rfl⟩ | ⟨rfl, rfl⟩
  all_goals
    simp only [Bool.false_or, Bool.true_or, Bool.or_false]
    go_enter Try.func6, Try.ntmps6
    have Hx0 := Lib.hid (((Blk.new w 26 #[.slice Ax nx cx, .int .i64 xo, .int .i64 xr, .int .i64 xk, .int .i64 xl]).alloc (.cells #[.slice Ay ny cy, .int .i64 yo, .int .i64 yr, .int .i64 yk, .int .i64 yl] 26)).alloc (.cells #[.slice Az nz cz, .int .i64 zo, .int .i64 zr, .int .i64 zk, .int .i64 zl] 26))
    have Hy0 := Lib.hid ((Blk.new_ (w.alloc (.cells #[.slice Ax nx cx, .int .i64 xo, .int .i64 xr, .int .i64 xk, .int .i64 xl] 26)) 26 #[.slice Ay ny cy, .int .i64 yo, .int .i64 yr, .int .i64 yk, .int .i64 yl] (w.heap.size + 1) (by simp)).alloc (.cells #[.slice Az nz cz, .int .i64 zo, .int .i64 zr, .int .i64 zk, .int .i64 zl] 26))
    have Hz0 := Lib.hid (Blk.new_ ((w.alloc (.cells #[.slice Ax nx cx, .int .i64 xo, .int .i64 xr, .int .i64 xk, .int .i64 xl] 26)).alloc (.cells #[.slice Ay ny cy, .int .i64 yo, .int .i64 yr, .int .i64 yk, .int .i64 yl] 26)) 26 #[.slice Az nz cz, .int .i64 zo, .int .i64 zr, .int .i64 zk, .int .i64 zl] (w.heap.size + 1 + 1) (by simp))
    have HB0 := Lib.hid ((((Below.refl w.heap.size w).alloc (Nat.le_refl _) (.cells #[.slice Ax nx cx, .int .i64 xo, .int .i64 xr, .int .i64 xk, .int .i64 xl] 26)).alloc (by simp) (.cells #[.slice Ay ny cy, .int .i64 yo, .int .i64 yr, .int .i64 yk, .int .i64 yl] 26)).alloc (by simp; omega) (.cells #[.slice Az nz cz, .int .i64 zo, .int .i64 zr, .int .i64 zk, .int .i64 zl] 26))
    obtain ⟨x0, x1, x2, x3, x4⟩ := cells5 Hx0.out
    obtain ⟨y0, y1, y2, y3, y4⟩ := cells5 Hy0.out
    obtain ⟨z0, z1, z2, z3, z4⟩ := cells5 Hz0.out
    repeat
      go_wp2_with fail
      first | with_reducible refine (HGx.out _).mono ?_ | with_reducible refine (HGy.out _).mono ?_ | with_reducible refine (HGz.out _).mono ?_
      rintro e w1 ⟨rfl, hb⟩
      replace Hx0 := Lib.hid (Hx0.out.nxt hb)
      replace Hy0 := Lib.hid (Hy0.out.nxt hb)
      replace Hz0 := Lib.hid (Hz0.out.nxt hb)
      replace HB0 := Lib.hid (below_nx HB0.out hb)
      clear hb x0 x1 x2 x3 x4 y0 y1 y2 y3 y4 z0 z1 z2 z3 z4
      obtain ⟨x0, x1, x2, x3, x4⟩ := cells5 Hx0.out
      obtain ⟨y0, y1, y2, y3, y4⟩ := cells5 Hy0.out
      obtain ⟨z0, z1, z2, z3, z4⟩ := cells5 Hz0.out
    go_wp2_with fail
    go_ret
    exact ⟨rfl, HB0.out⟩


set_option maxHeartbeats 4000000 in
/-- What the law finds wrong. -/
theorem bcheck_any (Ax : Option Addr) (nx cx : Nat) (xo xr xk xl : Int) (Ay : Option Addr) (ny cy : Nat) (yo yr yk yl : Int) (Az : Option Addr) (nz cz : Nat) (zo zr zk zl : Int) (one E : Int) (w : World) (b1 b2 b3 q1 q2 q3 t1 t2 p1 p2 : Bool) (zs zt xs xt ys yt : Int) (hGx : ∀ W, Calls Try.prog 21 #[mat Ax nx cx xo xr xk xl] W fun e w' => e = .returned (.bool b1) ∧ Below W.heap.size W w') (hGy : ∀ W, Calls Try.prog 21 #[mat Ay ny cy yo yr yk yl] W fun e w' => e = .returned (.bool b2) ∧ Below W.heap.size W w') (hGz : ∀ W, Calls Try.prog 21 #[mat Az nz cz zo zr zk zl] W fun e w' => e = .returned (.bool b3) ∧ Below W.heap.size W w')
    (h1 : (xk != yr) = q1) (h2 : (zr != xr) = q2) (h3 : (zk != yk) = q3) (f1 : (one == 1) = t1) (f2 : (one == 2) = t2) (h12 : t1 = true → t2 = false)
    (hSz : (b1 && b2 && b3) = true → (q1 || q2 || q3) = false → ∀ W, Calls Try.prog 22 #[mat Az nz cz zo zr zk zl] W fun e w' => e = .returned (.tuple #[.int .i64 zs, .int .i64 zt]) ∧ Below W.heap.size W w') (hSx : (b1 && b2 && b3) = true → (q1 || q2 || q3) = false → ∀ W, Calls Try.prog 22 #[mat Ax nx cx xo xr xk xl] W fun e w' => e = .returned (.tuple #[.int .i64 xs, .int .i64 xt]) ∧ Below W.heap.size W w') (hSy : (b1 && b2 && b3) = true → (q1 || q2 || q3) = false → ∀ W, Calls Try.prog 22 #[mat Ay ny cy yo yr yk yl] W fun e w' => e = .returned (.tuple #[.int .i64 ys, .int .i64 yt]) ∧ Below W.heap.size W w') (hP1 : ∀ W, Calls Try.prog 23 #[.int .i64 zs, .int .i64 zt, .int .i64 xs, .int .i64 xt] W fun e w' => e = .returned (.bool p1) ∧ Below W.heap.size W w') (hP2 : ∀ W, Calls Try.prog 23 #[.int .i64 zs, .int .i64 zt, .int .i64 ys, .int .i64 yt] W fun e w' => e = .returned (.bool p2) ∧ Below W.heap.size W w')
    (hE : E = if (b1 && b2 && b3) = false then 1 else if (q1 || q2 || q3) = true then 3 else if ((t1 && p1) || (t2 && p2)) = true then 2 else 0) :
    Calls Try.prog 10 #[mat Ax nx cx xo xr xk xl, mat Ay ny cy yo yr yk yl, mat Az nz cz zo zr zk zl, .int .i64 one] w fun e w' => e = .returned (.int .i64 E) ∧ Below w.heap.size w w' := by
  have HGx := Lib.hid hGx
  have HGy := Lib.hid hGy
  have HGz := Lib.hid hGz
  have HSx0 := Lib.hid hSx
  have HSy0 := Lib.hid hSy
  have HSz0 := Lib.hid hSz
  have HP1 := Lib.hid hP1
  have HP2 := Lib.hid hP2
  have key : (b1 = false) ∨ (b1 = true ∧ b2 = false) ∨ (b1 = true ∧ b2 = true ∧ b3 = false) ∨ (b1 = true ∧ b2 = true ∧ b3 = true ∧ q1 = true) ∨ (b1 = true ∧ b2 = true ∧ b3 = true ∧ q1 = false ∧ q2 = true) ∨ (b1 = true ∧ b2 = true ∧ b3 = true ∧ q1 = false ∧ q2 = false ∧ q3 = true) ∨ (b1 = true ∧ b2 = true ∧ b3 = true ∧ q1 = false ∧ q2 = false ∧ q3 = false ∧ t1 = true ∧ p1 = true) ∨ (b1 = true ∧ b2 = true ∧ b3 = true ∧ q1 = false ∧ q2 = false ∧ q3 = false ∧ t1 = true ∧ p1 = false ∧ t2 = false) ∨ (b1 = true ∧ b2 = true ∧ b3 = true ∧ q1 = false ∧ q2 = false ∧ q3 = false ∧ t1 = false ∧ t2 = true ∧ p2 = true) ∨ (b1 = true ∧ b2 = true ∧ b3 = true ∧ q1 = false ∧ q2 = false ∧ q3 = false ∧ t1 = false ∧ t2 = true ∧ p2 = false) ∨ (b1 = true ∧ b2 = true ∧ b3 = true ∧ q1 = false ∧ q2 = false ∧ q3 = false ∧ t1 = false ∧ t2 = false) := by
    cases b1 <;> cases b2 <;> cases b3 <;> cases q1 <;> cases q2 <;> cases q3 <;> cases t1 <;> cases p1 <;> cases t2 <;> cases p2 <;> simp at h12 ⊢
  clear hGx hGy hGz hSx hSy hSz hP1 hP2 h12
  unfold mat at *
  rcases key with rfl | ⟨rfl, rfl⟩ | ⟨rfl, rfl, rfl⟩ | ⟨rfl, rfl, rfl, rfl⟩ | ⟨rfl, rfl, rfl, rfl, rfl⟩ | ⟨rfl, rfl, rfl, rfl, rfl, rfl⟩ | ⟨rfl, rfl, rfl, rfl, rfl, rfl, rfl, rfl⟩ | ⟨rfl, rfl, rfl, rfl, rfl, rfl, rfl, rfl, rfl⟩ | ⟨rfl, rfl, rfl, rfl, rfl, rfl, rfl, rfl, rfl⟩ | ⟨rfl, rfl, rfl, rfl, rfl, rfl, rfl, rfl, rfl⟩ | ⟨rfl, rfl, rfl, rfl, rfl, rfl, rfl, rfl⟩
  all_goals
    simp only [Bool.false_and, Bool.true_and, Bool.and_false, Bool.and_true, Bool.false_or, Bool.true_or, Bool.or_false, Bool.or_true, if_true, if_false, Bool.true_eq_false, Bool.false_eq_true] at hE
    subst hE
    first | (have HSx := Lib.hid (HSx0.out rfl rfl); have HSy := Lib.hid (HSy0.out rfl rfl); have HSz := Lib.hid (HSz0.out rfl rfl); clear HSx0 HSy0 HSz0) | (have HSx := Lib.hid True.intro; have HSy := Lib.hid True.intro; have HSz := Lib.hid True.intro; clear HSx0 HSy0 HSz0)
    go_enter Try.func10, Try.ntmps10
    have Hx0 := Lib.hid (((Blk.new w 26 #[.slice Ax nx cx, .int .i64 xo, .int .i64 xr, .int .i64 xk, .int .i64 xl]).alloc (.cells #[.slice Ay ny cy, .int .i64 yo, .int .i64 yr, .int .i64 yk, .int .i64 yl] 26)).alloc (.cells #[.slice Az nz cz, .int .i64 zo, .int .i64 zr, .int .i64 zk, .int .i64 zl] 26))
    have Hy0 := Lib.hid ((Blk.new_ (w.alloc (.cells #[.slice Ax nx cx, .int .i64 xo, .int .i64 xr, .int .i64 xk, .int .i64 xl] 26)) 26 #[.slice Ay ny cy, .int .i64 yo, .int .i64 yr, .int .i64 yk, .int .i64 yl] (w.heap.size + 1) (by simp)).alloc (.cells #[.slice Az nz cz, .int .i64 zo, .int .i64 zr, .int .i64 zk, .int .i64 zl] 26))
    have Hz0 := Lib.hid (Blk.new_ ((w.alloc (.cells #[.slice Ax nx cx, .int .i64 xo, .int .i64 xr, .int .i64 xk, .int .i64 xl] 26)).alloc (.cells #[.slice Ay ny cy, .int .i64 yo, .int .i64 yr, .int .i64 yk, .int .i64 yl] 26)) 26 #[.slice Az nz cz, .int .i64 zo, .int .i64 zr, .int .i64 zk, .int .i64 zl] (w.heap.size + 1 + 1) (by simp))
    have HB0 := Lib.hid ((((Below.refl w.heap.size w).alloc (Nat.le_refl _) (.cells #[.slice Ax nx cx, .int .i64 xo, .int .i64 xr, .int .i64 xk, .int .i64 xl] 26)).alloc (by simp) (.cells #[.slice Ay ny cy, .int .i64 yo, .int .i64 yr, .int .i64 yk, .int .i64 yl] 26)).alloc (by simp; omega) (.cells #[.slice Az nz cz, .int .i64 zo, .int .i64 zr, .int .i64 zk, .int .i64 zl] 26))
    obtain ⟨x0, x1, x2, x3, x4⟩ := cells5 Hx0.out
    obtain ⟨y0, y1, y2, y3, y4⟩ := cells5 Hy0.out
    obtain ⟨z0, z1, z2, z3, z4⟩ := cells5 Hz0.out
    repeat
      go_wp2_with fail
      first | with_reducible refine (HGx.out _).mono ?_ | with_reducible refine (HGy.out _).mono ?_ | with_reducible refine (HGz.out _).mono ?_ | with_reducible refine (HSz.out _).mono ?_ | with_reducible refine (HSx.out _).mono ?_ | with_reducible refine (HSy.out _).mono ?_ | with_reducible refine (HP1.out _).mono ?_ | with_reducible refine (HP2.out _).mono ?_
      rintro e w1 ⟨rfl, hb⟩
      replace Hx0 := Lib.hid (Hx0.out.nxt hb)
      replace Hy0 := Lib.hid (Hy0.out.nxt hb)
      replace Hz0 := Lib.hid (Hz0.out.nxt hb)
      replace HB0 := Lib.hid (below_nx HB0.out hb)
      clear hb x0 x1 x2 x3 x4 y0 y1 y2 y3 y4 z0 z1 z2 z3 z4
      obtain ⟨x0, x1, x2, x3, x4⟩ := cells5 Hx0.out
      obtain ⟨y0, y1, y2, y3, y4⟩ := cells5 Hy0.out
      obtain ⟨z0, z1, z2, z3, z4⟩ := cells5 Hz0.out
    go_wp2_with fail
    go_ret
    exact ⟨rfl, HB0.out⟩

theorem rright13_any (s1 s2 s3 : Int) (w : World) :
    Calls Try.prog 8 #[.int .i64 s1, .int .i64 s2, .int .i64 s3] w fun e w' => e = .returned (.bool (sizB s1 s2 s3)) ∧ Below w.heap.size w w' := by
  obtain ⟨b1, hb1⟩ : ∃ v, decide (0 < s1) = v := ⟨_, rfl⟩
  obtain ⟨b2, hb2⟩ : ∃ v, decide (0 < s2) = v := ⟨_, rfl⟩
  obtain ⟨b3, hb3⟩ : ∃ v, decide (0 < s3) = v := ⟨_, rfl⟩
  have e : sizB s1 s2 s3 = (b1 && b2 && b3) := by
    rw [← hb1, ← hb2, ← hb3]
    unfold sizB
    apply Bool.eq_iff_iff.2
    simp
    omega
  rw [e]
  clear e
  have key : b1 = false ∨ (b1 = true ∧ b2 = false) ∨ (b1 = true ∧ b2 = true ∧ b3 = false) ∨ (b1 = true ∧ b2 = true ∧ b3 = true) := by cases b1 <;> cases b2 <;> cases b3 <;> simp
  rcases key with rfl | ⟨rfl, rfl⟩ | ⟨rfl, rfl, rfl⟩ | ⟨rfl, rfl, rfl⟩
  all_goals
    go_enter Try.func8, Try.ntmps8
    go_wp2_with fail
    go_ret
    exact ⟨rfl, Below.refl _ _⟩
end Go.Proofs.Ytbeefnekblepfaa
