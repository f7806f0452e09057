/-
Ger: the program's Ger, why not, and what it makes. Conditions: as each says.
-/
import Derived.Test.YtmjaakngiilmdaaZGrB
set_option linter.unusedVariables false
set_option linter.unusedSimpArgs false
set_option linter.unnecessarySimpa false
namespace Go.Proofs.Ytmjaakngiilmdaa
open Go.RowKit
attribute [local go_sem ↓] Go.wp_at_zero Go.wp_at_succ

theorem cells1g {w : World} {g : Nat} {t : TypeId} {v : Value} (h : Blk w g t #[v]) : w.cell? ⟨g, 0, none⟩ = some v ∧ True := ⟨h.cell 0, trivial⟩
set_option maxHeartbeats 2000000 in
theorem grger_bad (a : Nat) (Ax : Option Addr) (nx cx : Nat) (xo xk xi : Int) (Ay : Option Addr) (ny cy : Nat) (yo yk yi : Int) (Am : Option Addr) (nm cm : Nat) (mo mr mk ml : Int) (w : World) (hnx : nx < 9223372036854775808) (hxo : I64 xo) (hxk : I64 xk) (hxi : I64 xi) (hny : ny < 9223372036854775808) (hyo : I64 yo) (hyk : I64 yk) (hyi : I64 yi) (hnm : nm < 9223372036854775808) (hmo : I64 mo) (hmr : I64 mr) (hmk : I64 mk) (hml : I64 ml) (h : (vecB nx xo xk xi && vecB ny yo yk yi && matB nm mo mr mk ml) = false) :
    Calls Try.prog 17 #[.float .f64 a, vec Ax nx cx xo xk xi, vec Ay ny cy yo yk yi, mat Am nm cm mo mr mk ml] w fun e w' => e = .returned (.int .i64 1) ∧ Below w.heap.size w w' := by
  have HRx := Lib.hid (fun W => right_any Ax nx cx xo xk xi W hnx hxo hxk hxi)
  have HRy := Lib.hid (fun W => right_any Ay ny cy yo yk yi W hny hyo hyk hyi)
  have HG := Lib.hid (fun W => good_any Am nm cm mo mr mk ml W hnm hmo hmr hmk hml)
  generalize vecB nx xo xk xi = b1 at *
  generalize vecB ny yo yk yi = b2 at *
  generalize matB nm mo mr mk ml = b3 at *
  clear hnx hxo hxk hxi hny hyo hyk hyi hnm hmo hmr hmk hml
  cases b1
  · clear h
    unfold mat vec at *
    go_enter Try.func17, Try.ntmps17
    have Ha0 := Lib.hid ((((Blk.new w 28 #[.float .f64 a]).alloc (.cells #[.slice Ax nx cx, .int .i64 xo, .int .i64 xk, .int .i64 xi] 32)).alloc (.cells #[.slice Ay ny cy, .int .i64 yo, .int .i64 yk, .int .i64 yi] 32)).alloc (.cells #[.slice Am nm cm, .int .i64 mo, .int .i64 mr, .int .i64 mk, .int .i64 ml] 26))
    have Hx0 := Lib.hid (((Blk.new_ (w.alloc (.cells #[.float .f64 a] 28)) 32 #[.slice Ax nx cx, .int .i64 xo, .int .i64 xk, .int .i64 xi] (w.heap.size + 1) (by simp)).alloc (.cells #[.slice Ay ny cy, .int .i64 yo, .int .i64 yk, .int .i64 yi] 32)).alloc (.cells #[.slice Am nm cm, .int .i64 mo, .int .i64 mr, .int .i64 mk, .int .i64 ml] 26))
    have Hy0 := Lib.hid ((Blk.new_ ((w.alloc (.cells #[.float .f64 a] 28)).alloc (.cells #[.slice Ax nx cx, .int .i64 xo, .int .i64 xk, .int .i64 xi] 32)) 32 #[.slice Ay ny cy, .int .i64 yo, .int .i64 yk, .int .i64 yi] (w.heap.size + 1 + 1) (by simp)).alloc (.cells #[.slice Am nm cm, .int .i64 mo, .int .i64 mr, .int .i64 mk, .int .i64 ml] 26))
    have Hm0 := Lib.hid (Blk.new_ (((w.alloc (.cells #[.float .f64 a] 28)).alloc (.cells #[.slice Ax nx cx, .int .i64 xo, .int .i64 xk, .int .i64 xi] 32)).alloc (.cells #[.slice Ay ny cy, .int .i64 yo, .int .i64 yk, .int .i64 yi] 32)) 26 #[.slice Am nm cm, .int .i64 mo, .int .i64 mr, .int .i64 mk, .int .i64 ml] (w.heap.size + 1 + 1 + 1) (by simp))
    have HB0 := Lib.hid (((((Below.refl w.heap.size w).alloc (Nat.le_refl _) (.cells #[.float .f64 a] 28)).alloc (by simp) (.cells #[.slice Ax nx cx, .int .i64 xo, .int .i64 xk, .int .i64 xi] 32)).alloc (by simp; omega) (.cells #[.slice Ay ny cy, .int .i64 yo, .int .i64 yk, .int .i64 yi] 32)).alloc (by simp; omega) (.cells #[.slice Am nm cm, .int .i64 mo, .int .i64 mr, .int .i64 mk, .int .i64 ml] 26))
    obtain ⟨a0, _⟩ := cells1g Ha0.out
    obtain ⟨x0, x1, x2, x3⟩ := cells4w Hx0.out
    obtain ⟨y0, y1, y2, y3⟩ := cells4w Hy0.out
    obtain ⟨m0, m1, m2, m3, m4⟩ := cells5 Hm0.out
    go_wp2_with fail
    refine (HRx.out _).mono ?_
    rintro e w1 ⟨rfl, hb⟩
    have Ha1 := Lib.hid (Ha0.out.nxt hb)
    have Hx1 := Lib.hid (Hx0.out.nxt hb)
    have Hy1 := Lib.hid (Hy0.out.nxt hb)
    have Hm1 := Lib.hid (Hm0.out.nxt hb)
    have HB1 := Lib.hid (below_nx HB0.out hb)
    clear hb
    clear a0 x0 x1 x2 x3 y0 y1 y2 y3 m0 m1 m2 m3 m4
    obtain ⟨a0, _⟩ := cells1g Ha1.out
    obtain ⟨x0, x1, x2, x3⟩ := cells4w Hx1.out
    obtain ⟨y0, y1, y2, y3⟩ := cells4w Hy1.out
    obtain ⟨m0, m1, m2, m3, m4⟩ := cells5 Hm1.out
    go_wp2_with fail
    go_ret
    exact ⟨rfl, HB1.out⟩
  · cases b2
    · clear h
      unfold mat vec at *
      go_enter Try.func17, Try.ntmps17
      have Ha0 := Lib.hid ((((Blk.new w 28 #[.float .f64 a]).alloc (.cells #[.slice Ax nx cx, .int .i64 xo, .int .i64 xk, .int .i64 xi] 32)).alloc (.cells #[.slice Ay ny cy, .int .i64 yo, .int .i64 yk, .int .i64 yi] 32)).alloc (.cells #[.slice Am nm cm, .int .i64 mo, .int .i64 mr, .int .i64 mk, .int .i64 ml] 26))
      have Hx0 := Lib.hid (((Blk.new_ (w.alloc (.cells #[.float .f64 a] 28)) 32 #[.slice Ax nx cx, .int .i64 xo, .int .i64 xk, .int .i64 xi] (w.heap.size + 1) (by simp)).alloc (.cells #[.slice Ay ny cy, .int .i64 yo, .int .i64 yk, .int .i64 yi] 32)).alloc (.cells #[.slice Am nm cm, .int .i64 mo, .int .i64 mr, .int .i64 mk, .int .i64 ml] 26))
      have Hy0 := Lib.hid ((Blk.new_ ((w.alloc (.cells #[.float .f64 a] 28)).alloc (.cells #[.slice Ax nx cx, .int .i64 xo, .int .i64 xk, .int .i64 xi] 32)) 32 #[.slice Ay ny cy, .int .i64 yo, .int .i64 yk, .int .i64 yi] (w.heap.size + 1 + 1) (by simp)).alloc (.cells #[.slice Am nm cm, .int .i64 mo, .int .i64 mr, .int .i64 mk, .int .i64 ml] 26))
      have Hm0 := Lib.hid (Blk.new_ (((w.alloc (.cells #[.float .f64 a] 28)).alloc (.cells #[.slice Ax nx cx, .int .i64 xo, .int .i64 xk, .int .i64 xi] 32)).alloc (.cells #[.slice Ay ny cy, .int .i64 yo, .int .i64 yk, .int .i64 yi] 32)) 26 #[.slice Am nm cm, .int .i64 mo, .int .i64 mr, .int .i64 mk, .int .i64 ml] (w.heap.size + 1 + 1 + 1) (by simp))
      have HB0 := Lib.hid (((((Below.refl w.heap.size w).alloc (Nat.le_refl _) (.cells #[.float .f64 a] 28)).alloc (by simp) (.cells #[.slice Ax nx cx, .int .i64 xo, .int .i64 xk, .int .i64 xi] 32)).alloc (by simp; omega) (.cells #[.slice Ay ny cy, .int .i64 yo, .int .i64 yk, .int .i64 yi] 32)).alloc (by simp; omega) (.cells #[.slice Am nm cm, .int .i64 mo, .int .i64 mr, .int .i64 mk, .int .i64 ml] 26))
      obtain ⟨a0, _⟩ := cells1g Ha0.out
      obtain ⟨x0, x1, x2, x3⟩ := cells4w Hx0.out
      obtain ⟨y0, y1, y2, y3⟩ := cells4w Hy0.out
      obtain ⟨m0, m1, m2, m3, m4⟩ := cells5 Hm0.out
      go_wp2_with fail
      refine (HRx.out _).mono ?_
      rintro e w1 ⟨rfl, hb⟩
      have Ha1 := Lib.hid (Ha0.out.nxt hb)
      have Hx1 := Lib.hid (Hx0.out.nxt hb)
      have Hy1 := Lib.hid (Hy0.out.nxt hb)
      have Hm1 := Lib.hid (Hm0.out.nxt hb)
      have HB1 := Lib.hid (below_nx HB0.out hb)
      clear hb
      clear a0 x0 x1 x2 x3 y0 y1 y2 y3 m0 m1 m2 m3 m4
      obtain ⟨a0, _⟩ := cells1g Ha1.out
      obtain ⟨x0, x1, x2, x3⟩ := cells4w Hx1.out
      obtain ⟨y0, y1, y2, y3⟩ := cells4w Hy1.out
      obtain ⟨m0, m1, m2, m3, m4⟩ := cells5 Hm1.out
      go_wp2_with fail
      refine (HRy.out _).mono ?_
      rintro e w2 ⟨rfl, hb⟩
      have Ha2 := Lib.hid (Ha1.out.nxt hb)
      have Hx2 := Lib.hid (Hx1.out.nxt hb)
      have Hy2 := Lib.hid (Hy1.out.nxt hb)
      have Hm2 := Lib.hid (Hm1.out.nxt hb)
      have HB2 := Lib.hid (below_nx HB1.out hb)
      clear hb
      clear a0 x0 x1 x2 x3 y0 y1 y2 y3 m0 m1 m2 m3 m4
      obtain ⟨a0, _⟩ := cells1g Ha2.out
      obtain ⟨x0, x1, x2, x3⟩ := cells4w Hx2.out
      obtain ⟨y0, y1, y2, y3⟩ := cells4w Hy2.out
      obtain ⟨m0, m1, m2, m3, m4⟩ := cells5 Hm2.out
      go_wp2_with fail
      go_ret
      exact ⟨rfl, HB2.out⟩
    · have hb3 : b3 = false := by simpa using h
      subst hb3
      clear h
      unfold mat vec at *
      go_enter Try.func17, Try.ntmps17
      have Ha0 := Lib.hid ((((Blk.new w 28 #[.float .f64 a]).alloc (.cells #[.slice Ax nx cx, .int .i64 xo, .int .i64 xk, .int .i64 xi] 32)).alloc (.cells #[.slice Ay ny cy, .int .i64 yo, .int .i64 yk, .int .i64 yi] 32)).alloc (.cells #[.slice Am nm cm, .int .i64 mo, .int .i64 mr, .int .i64 mk, .int .i64 ml] 26))
      have Hx0 := Lib.hid (((Blk.new_ (w.alloc (.cells #[.float .f64 a] 28)) 32 #[.slice Ax nx cx, .int .i64 xo, .int .i64 xk, .int .i64 xi] (w.heap.size + 1) (by simp)).alloc (.cells #[.slice Ay ny cy, .int .i64 yo, .int .i64 yk, .int .i64 yi] 32)).alloc (.cells #[.slice Am nm cm, .int .i64 mo, .int .i64 mr, .int .i64 mk, .int .i64 ml] 26))
      have Hy0 := Lib.hid ((Blk.new_ ((w.alloc (.cells #[.float .f64 a] 28)).alloc (.cells #[.slice Ax nx cx, .int .i64 xo, .int .i64 xk, .int .i64 xi] 32)) 32 #[.slice Ay ny cy, .int .i64 yo, .int .i64 yk, .int .i64 yi] (w.heap.size + 1 + 1) (by simp)).alloc (.cells #[.slice Am nm cm, .int .i64 mo, .int .i64 mr, .int .i64 mk, .int .i64 ml] 26))
      have Hm0 := Lib.hid (Blk.new_ (((w.alloc (.cells #[.float .f64 a] 28)).alloc (.cells #[.slice Ax nx cx, .int .i64 xo, .int .i64 xk, .int .i64 xi] 32)).alloc (.cells #[.slice Ay ny cy, .int .i64 yo, .int .i64 yk, .int .i64 yi] 32)) 26 #[.slice Am nm cm, .int .i64 mo, .int .i64 mr, .int .i64 mk, .int .i64 ml] (w.heap.size + 1 + 1 + 1) (by simp))
      have HB0 := Lib.hid (((((Below.refl w.heap.size w).alloc (Nat.le_refl _) (.cells #[.float .f64 a] 28)).alloc (by simp) (.cells #[.slice Ax nx cx, .int .i64 xo, .int .i64 xk, .int .i64 xi] 32)).alloc (by simp; omega) (.cells #[.slice Ay ny cy, .int .i64 yo, .int .i64 yk, .int .i64 yi] 32)).alloc (by simp; omega) (.cells #[.slice Am nm cm, .int .i64 mo, .int .i64 mr, .int .i64 mk, .int .i64 ml] 26))
      obtain ⟨a0, _⟩ := cells1g Ha0.out
      obtain ⟨x0, x1, x2, x3⟩ := cells4w Hx0.out
      obtain ⟨y0, y1, y2, y3⟩ := cells4w Hy0.out
      obtain ⟨m0, m1, m2, m3, m4⟩ := cells5 Hm0.out
      go_wp2_with fail
      refine (HRx.out _).mono ?_
      rintro e w1 ⟨rfl, hb⟩
      have Ha1 := Lib.hid (Ha0.out.nxt hb)
      have Hx1 := Lib.hid (Hx0.out.nxt hb)
      have Hy1 := Lib.hid (Hy0.out.nxt hb)
      have Hm1 := Lib.hid (Hm0.out.nxt hb)
      have HB1 := Lib.hid (below_nx HB0.out hb)
      clear hb
      clear a0 x0 x1 x2 x3 y0 y1 y2 y3 m0 m1 m2 m3 m4
      obtain ⟨a0, _⟩ := cells1g Ha1.out
      obtain ⟨x0, x1, x2, x3⟩ := cells4w Hx1.out
      obtain ⟨y0, y1, y2, y3⟩ := cells4w Hy1.out
      obtain ⟨m0, m1, m2, m3, m4⟩ := cells5 Hm1.out
      go_wp2_with fail
      refine (HRy.out _).mono ?_
      rintro e w2 ⟨rfl, hb⟩
      have Ha2 := Lib.hid (Ha1.out.nxt hb)
      have Hx2 := Lib.hid (Hx1.out.nxt hb)
      have Hy2 := Lib.hid (Hy1.out.nxt hb)
      have Hm2 := Lib.hid (Hm1.out.nxt hb)
      have HB2 := Lib.hid (below_nx HB1.out hb)
      clear hb
      clear a0 x0 x1 x2 x3 y0 y1 y2 y3 m0 m1 m2 m3 m4
      obtain ⟨a0, _⟩ := cells1g Ha2.out
      obtain ⟨x0, x1, x2, x3⟩ := cells4w Hx2.out
      obtain ⟨y0, y1, y2, y3⟩ := cells4w Hy2.out
      obtain ⟨m0, m1, m2, m3, m4⟩ := cells5 Hm2.out
      go_wp2_with fail
      refine (HG.out _).mono ?_
      rintro e w3 ⟨rfl, hb⟩
      have Ha3 := Lib.hid (Ha2.out.nxt hb)
      have Hx3 := Lib.hid (Hx2.out.nxt hb)
      have Hy3 := Lib.hid (Hy2.out.nxt hb)
      have Hm3 := Lib.hid (Hm2.out.nxt hb)
      have HB3 := Lib.hid (below_nx HB2.out hb)
      clear hb
      clear a0 x0 x1 x2 x3 y0 y1 y2 y3 m0 m1 m2 m3 m4
      obtain ⟨a0, _⟩ := cells1g Ha3.out
      obtain ⟨x0, x1, x2, x3⟩ := cells4w Hx3.out
      obtain ⟨y0, y1, y2, y3⟩ := cells4w Hy3.out
      obtain ⟨m0, m1, m2, m3, m4⟩ := cells5 Hm3.out
      go_wp2_with fail
      go_ret
      exact ⟨rfl, HB3.out⟩

set_option maxHeartbeats 2000000 in
theorem grger_size (a : Nat) (Ax : Option Addr) (nx cx : Nat) (xo xk xi : Int) (Ay : Option Addr) (ny cy : Nat) (yo yk yi : Int) (Am : Option Addr) (nm cm : Nat) (mo mr mk ml : Int) (w : World) (hnx : nx < 9223372036854775808) (hxo : I64 xo) (hxk : I64 xk) (hxi : I64 xi) (hny : ny < 9223372036854775808) (hyo : I64 yo) (hyk : I64 yk) (hyi : I64 yi) (hnm : nm < 9223372036854775808) (hmo : I64 mo) (hmr : I64 mr) (hmk : I64 mk) (hml : I64 ml) (h : (vecB nx xo xk xi && vecB ny yo yk yi && matB nm mo mr mk ml) = true) (hs : ¬ (xk = mr ∧ yk = mk)) :
    Calls Try.prog 17 #[.float .f64 a, vec Ax nx cx xo xk xi, vec Ay ny cy yo yk yi, mat Am nm cm mo mr mk ml] w fun e w' => e = .returned (.int .i64 3) ∧ Below w.heap.size w w' := by
  have HRx := Lib.hid (fun W => right_any Ax nx cx xo xk xi W hnx hxo hxk hxi)
  have HRy := Lib.hid (fun W => right_any Ay ny cy yo yk yi W hny hyo hyk hyi)
  have HG := Lib.hid (fun W => good_any Am nm cm mo mr mk ml W hnm hmo hmr hmk hml)
  simp only [Bool.and_eq_true] at h
  rw [h.1.1] at HRx
  rw [h.1.2] at HRy
  rw [h.2] at HG
  clear h
  clear hnx hxo hxk hxi hny hyo hyk hyi hnm hmo hmr hmk hml
  by_cases e1 : xk = mr
  · have t1 : (xk == mr) = true := by simp [e1]
    have t1' : (xk != mr) = false := by simp [e1]
    have e2 : ¬ yk = mk := fun e => hs ⟨e1, e⟩
    have t2 : (yk == mk) = false := by simp [e2]
    have t2' : (yk != mk) = true := by simp [e2]
    clear e1 e2 hs
    unfold mat vec at *
    go_enter Try.func17, Try.ntmps17
    have Ha0 := Lib.hid ((((Blk.new w 28 #[.float .f64 a]).alloc (.cells #[.slice Ax nx cx, .int .i64 xo, .int .i64 xk, .int .i64 xi] 32)).alloc (.cells #[.slice Ay ny cy, .int .i64 yo, .int .i64 yk, .int .i64 yi] 32)).alloc (.cells #[.slice Am nm cm, .int .i64 mo, .int .i64 mr, .int .i64 mk, .int .i64 ml] 26))
    have Hx0 := Lib.hid (((Blk.new_ (w.alloc (.cells #[.float .f64 a] 28)) 32 #[.slice Ax nx cx, .int .i64 xo, .int .i64 xk, .int .i64 xi] (w.heap.size + 1) (by simp)).alloc (.cells #[.slice Ay ny cy, .int .i64 yo, .int .i64 yk, .int .i64 yi] 32)).alloc (.cells #[.slice Am nm cm, .int .i64 mo, .int .i64 mr, .int .i64 mk, .int .i64 ml] 26))
    have Hy0 := Lib.hid ((Blk.new_ ((w.alloc (.cells #[.float .f64 a] 28)).alloc (.cells #[.slice Ax nx cx, .int .i64 xo, .int .i64 xk, .int .i64 xi] 32)) 32 #[.slice Ay ny cy, .int .i64 yo, .int .i64 yk, .int .i64 yi] (w.heap.size + 1 + 1) (by simp)).alloc (.cells #[.slice Am nm cm, .int .i64 mo, .int .i64 mr, .int .i64 mk, .int .i64 ml] 26))
    have Hm0 := Lib.hid (Blk.new_ (((w.alloc (.cells #[.float .f64 a] 28)).alloc (.cells #[.slice Ax nx cx, .int .i64 xo, .int .i64 xk, .int .i64 xi] 32)).alloc (.cells #[.slice Ay ny cy, .int .i64 yo, .int .i64 yk, .int .i64 yi] 32)) 26 #[.slice Am nm cm, .int .i64 mo, .int .i64 mr, .int .i64 mk, .int .i64 ml] (w.heap.size + 1 + 1 + 1) (by simp))
    have HB0 := Lib.hid (((((Below.refl w.heap.size w).alloc (Nat.le_refl _) (.cells #[.float .f64 a] 28)).alloc (by simp) (.cells #[.slice Ax nx cx, .int .i64 xo, .int .i64 xk, .int .i64 xi] 32)).alloc (by simp; omega) (.cells #[.slice Ay ny cy, .int .i64 yo, .int .i64 yk, .int .i64 yi] 32)).alloc (by simp; omega) (.cells #[.slice Am nm cm, .int .i64 mo, .int .i64 mr, .int .i64 mk, .int .i64 ml] 26))
    obtain ⟨a0, _⟩ := cells1g Ha0.out
    obtain ⟨x0, x1, x2, x3⟩ := cells4w Hx0.out
    obtain ⟨y0, y1, y2, y3⟩ := cells4w Hy0.out
    obtain ⟨m0, m1, m2, m3, m4⟩ := cells5 Hm0.out
    go_wp2_with fail
    refine (HRx.out _).mono ?_
    rintro e w1 ⟨rfl, hb⟩
    have Ha1 := Lib.hid (Ha0.out.nxt hb)
    have Hx1 := Lib.hid (Hx0.out.nxt hb)
    have Hy1 := Lib.hid (Hy0.out.nxt hb)
    have Hm1 := Lib.hid (Hm0.out.nxt hb)
    have HB1 := Lib.hid (below_nx HB0.out hb)
    clear hb
    clear a0 x0 x1 x2 x3 y0 y1 y2 y3 m0 m1 m2 m3 m4
    obtain ⟨a0, _⟩ := cells1g Ha1.out
    obtain ⟨x0, x1, x2, x3⟩ := cells4w Hx1.out
    obtain ⟨y0, y1, y2, y3⟩ := cells4w Hy1.out
    obtain ⟨m0, m1, m2, m3, m4⟩ := cells5 Hm1.out
    go_wp2_with fail
    refine (HRy.out _).mono ?_
    rintro e w2 ⟨rfl, hb⟩
    have Ha2 := Lib.hid (Ha1.out.nxt hb)
    have Hx2 := Lib.hid (Hx1.out.nxt hb)
    have Hy2 := Lib.hid (Hy1.out.nxt hb)
    have Hm2 := Lib.hid (Hm1.out.nxt hb)
    have HB2 := Lib.hid (below_nx HB1.out hb)
    clear hb
    clear a0 x0 x1 x2 x3 y0 y1 y2 y3 m0 m1 m2 m3 m4
    obtain ⟨a0, _⟩ := cells1g Ha2.out
    obtain ⟨x0, x1, x2, x3⟩ := cells4w Hx2.out
    obtain ⟨y0, y1, y2, y3⟩ := cells4w Hy2.out
    obtain ⟨m0, m1, m2, m3, m4⟩ := cells5 Hm2.out
    go_wp2_with fail
    refine (HG.out _).mono ?_
    rintro e w3 ⟨rfl, hb⟩
    have Ha3 := Lib.hid (Ha2.out.nxt hb)
    have Hx3 := Lib.hid (Hx2.out.nxt hb)
    have Hy3 := Lib.hid (Hy2.out.nxt hb)
    have Hm3 := Lib.hid (Hm2.out.nxt hb)
    have HB3 := Lib.hid (below_nx HB2.out hb)
    clear hb
    clear a0 x0 x1 x2 x3 y0 y1 y2 y3 m0 m1 m2 m3 m4
    obtain ⟨a0, _⟩ := cells1g Ha3.out
    obtain ⟨x0, x1, x2, x3⟩ := cells4w Hx3.out
    obtain ⟨y0, y1, y2, y3⟩ := cells4w Hy3.out
    obtain ⟨m0, m1, m2, m3, m4⟩ := cells5 Hm3.out
    go_wp2_with fail
    go_ret
    exact ⟨rfl, HB3.out⟩
  · have t1 : (xk == mr) = false := by simp [e1]
    have t1' : (xk != mr) = true := by simp [e1]
    clear e1 hs
    unfold mat vec at *
    go_enter Try.func17, Try.ntmps17
    have Ha0 := Lib.hid ((((Blk.new w 28 #[.float .f64 a]).alloc (.cells #[.slice Ax nx cx, .int .i64 xo, .int .i64 xk, .int .i64 xi] 32)).alloc (.cells #[.slice Ay ny cy, .int .i64 yo, .int .i64 yk, .int .i64 yi] 32)).alloc (.cells #[.slice Am nm cm, .int .i64 mo, .int .i64 mr, .int .i64 mk, .int .i64 ml] 26))
    have Hx0 := Lib.hid (((Blk.new_ (w.alloc (.cells #[.float .f64 a] 28)) 32 #[.slice Ax nx cx, .int .i64 xo, .int .i64 xk, .int .i64 xi] (w.heap.size + 1) (by simp)).alloc (.cells #[.slice Ay ny cy, .int .i64 yo, .int .i64 yk, .int .i64 yi] 32)).alloc (.cells #[.slice Am nm cm, .int .i64 mo, .int .i64 mr, .int .i64 mk, .int .i64 ml] 26))
    have Hy0 := Lib.hid ((Blk.new_ ((w.alloc (.cells #[.float .f64 a] 28)).alloc (.cells #[.slice Ax nx cx, .int .i64 xo, .int .i64 xk, .int .i64 xi] 32)) 32 #[.slice Ay ny cy, .int .i64 yo, .int .i64 yk, .int .i64 yi] (w.heap.size + 1 + 1) (by simp)).alloc (.cells #[.slice Am nm cm, .int .i64 mo, .int .i64 mr, .int .i64 mk, .int .i64 ml] 26))
    have Hm0 := Lib.hid (Blk.new_ (((w.alloc (.cells #[.float .f64 a] 28)).alloc (.cells #[.slice Ax nx cx, .int .i64 xo, .int .i64 xk, .int .i64 xi] 32)).alloc (.cells #[.slice Ay ny cy, .int .i64 yo, .int .i64 yk, .int .i64 yi] 32)) 26 #[.slice Am nm cm, .int .i64 mo, .int .i64 mr, .int .i64 mk, .int .i64 ml] (w.heap.size + 1 + 1 + 1) (by simp))
    have HB0 := Lib.hid (((((Below.refl w.heap.size w).alloc (Nat.le_refl _) (.cells #[.float .f64 a] 28)).alloc (by simp) (.cells #[.slice Ax nx cx, .int .i64 xo, .int .i64 xk, .int .i64 xi] 32)).alloc (by simp; omega) (.cells #[.slice Ay ny cy, .int .i64 yo, .int .i64 yk, .int .i64 yi] 32)).alloc (by simp; omega) (.cells #[.slice Am nm cm, .int .i64 mo, .int .i64 mr, .int .i64 mk, .int .i64 ml] 26))
    obtain ⟨a0, _⟩ := cells1g Ha0.out
    obtain ⟨x0, x1, x2, x3⟩ := cells4w Hx0.out
    obtain ⟨y0, y1, y2, y3⟩ := cells4w Hy0.out
    obtain ⟨m0, m1, m2, m3, m4⟩ := cells5 Hm0.out
    go_wp2_with fail
    refine (HRx.out _).mono ?_
    rintro e w1 ⟨rfl, hb⟩
    have Ha1 := Lib.hid (Ha0.out.nxt hb)
    have Hx1 := Lib.hid (Hx0.out.nxt hb)
    have Hy1 := Lib.hid (Hy0.out.nxt hb)
    have Hm1 := Lib.hid (Hm0.out.nxt hb)
    have HB1 := Lib.hid (below_nx HB0.out hb)
    clear hb
    clear a0 x0 x1 x2 x3 y0 y1 y2 y3 m0 m1 m2 m3 m4
    obtain ⟨a0, _⟩ := cells1g Ha1.out
    obtain ⟨x0, x1, x2, x3⟩ := cells4w Hx1.out
    obtain ⟨y0, y1, y2, y3⟩ := cells4w Hy1.out
    obtain ⟨m0, m1, m2, m3, m4⟩ := cells5 Hm1.out
    go_wp2_with fail
    refine (HRy.out _).mono ?_
    rintro e w2 ⟨rfl, hb⟩
    have Ha2 := Lib.hid (Ha1.out.nxt hb)
    have Hx2 := Lib.hid (Hx1.out.nxt hb)
    have Hy2 := Lib.hid (Hy1.out.nxt hb)
    have Hm2 := Lib.hid (Hm1.out.nxt hb)
    have HB2 := Lib.hid (below_nx HB1.out hb)
    clear hb
    clear a0 x0 x1 x2 x3 y0 y1 y2 y3 m0 m1 m2 m3 m4
    obtain ⟨a0, _⟩ := cells1g Ha2.out
    obtain ⟨x0, x1, x2, x3⟩ := cells4w Hx2.out
    obtain ⟨y0, y1, y2, y3⟩ := cells4w Hy2.out
    obtain ⟨m0, m1, m2, m3, m4⟩ := cells5 Hm2.out
    go_wp2_with fail
    refine (HG.out _).mono ?_
    rintro e w3 ⟨rfl, hb⟩
    have Ha3 := Lib.hid (Ha2.out.nxt hb)
    have Hx3 := Lib.hid (Hx2.out.nxt hb)
    have Hy3 := Lib.hid (Hy2.out.nxt hb)
    have Hm3 := Lib.hid (Hm2.out.nxt hb)
    have HB3 := Lib.hid (below_nx HB2.out hb)
    clear hb
    clear a0 x0 x1 x2 x3 y0 y1 y2 y3 m0 m1 m2 m3 m4
    obtain ⟨a0, _⟩ := cells1g Ha3.out
    obtain ⟨x0, x1, x2, x3⟩ := cells4w Hx3.out
    obtain ⟨y0, y1, y2, y3⟩ := cells4w Hy3.out
    obtain ⟨m0, m1, m2, m3, m4⟩ := cells5 Hm3.out
    go_wp2_with fail
    go_ret
    exact ⟨rfl, HB3.out⟩

set_option maxHeartbeats 2000000 in
theorem grger_meet (a : Nat) (Ax : Option Addr) (nx cx : Nat) (xo xi : Int) (Ay : Option Addr) (ny cy : Nat) (yo yi : Int) (Am : Option Addr) (nm cm : Nat) (mo mr mk ml : Int) (b1 b2 : Bool) (w : World) (hnx : nx < 9223372036854775808) (hxo : I64 xo) (hxi : I64 xi) (hny : ny < 9223372036854775808) (hyo : I64 yo) (hyi : I64 yi) (hnm : nm < 9223372036854775808) (hmo : I64 mo) (hmr : I64 mr) (hmk : I64 mk) (hml : I64 ml) (h : (vecB nx xo mr xi && vecB ny yo mk yi && matB nm mo mr mk ml) = true) (hx : ∀ W, Below w.heap.size w W → Calls Try.prog 48 #[vec Ax nx cx xo mr xi, mat Am nm cm mo mr mk ml] W fun e w' => e = .returned (.bool b1) ∧ Below W.heap.size W w') (hy : ∀ W, Below w.heap.size w W → Calls Try.prog 48 #[vec Ay ny cy yo mk yi, mat Am nm cm mo mr mk ml] W fun e w' => e = .returned (.bool b2) ∧ Below W.heap.size W w') (hb : (b1 || b2) = true) :
    Calls Try.prog 17 #[.float .f64 a, vec Ax nx cx xo mr xi, vec Ay ny cy yo mk yi, mat Am nm cm mo mr mk ml] w fun e w' => e = .returned (.int .i64 2) ∧ Below w.heap.size w w' := by
  have HRx := Lib.hid (fun W => right_any Ax nx cx xo mr xi W hnx hxo hmr hxi)
  have HRy := Lib.hid (fun W => right_any Ay ny cy yo mk yi W hny hyo hmk hyi)
  have HG := Lib.hid (fun W => good_any Am nm cm mo mr mk ml W hnm hmo hmr hmk hml)
  simp only [Bool.and_eq_true] at h
  rw [h.1.1] at HRx
  rw [h.1.2] at HRy
  rw [h.2] at HG
  clear h
  clear hnx hxo hxi hny hyo hyi hnm hmo hmr hmk hml
  have HMx := Lib.hid hx
  have HMy := Lib.hid hy
  clear hx hy
  have t1 : (mr == mr) = true := by simp
  have t1' : (mr != mr) = false := by simp
  have t2 : (mk == mk) = true := by simp
  have t2' : (mk != mk) = false := by simp
  cases b1
  · have hb2 : b2 = true := by simpa using hb
    subst hb2
    clear hb
    unfold mat vec at *
    go_enter Try.func17, Try.ntmps17
    have Ha0 := Lib.hid ((((Blk.new w 28 #[.float .f64 a]).alloc (.cells #[.slice Ax nx cx, .int .i64 xo, .int .i64 mr, .int .i64 xi] 32)).alloc (.cells #[.slice Ay ny cy, .int .i64 yo, .int .i64 mk, .int .i64 yi] 32)).alloc (.cells #[.slice Am nm cm, .int .i64 mo, .int .i64 mr, .int .i64 mk, .int .i64 ml] 26))
    have Hx0 := Lib.hid (((Blk.new_ (w.alloc (.cells #[.float .f64 a] 28)) 32 #[.slice Ax nx cx, .int .i64 xo, .int .i64 mr, .int .i64 xi] (w.heap.size + 1) (by simp)).alloc (.cells #[.slice Ay ny cy, .int .i64 yo, .int .i64 mk, .int .i64 yi] 32)).alloc (.cells #[.slice Am nm cm, .int .i64 mo, .int .i64 mr, .int .i64 mk, .int .i64 ml] 26))
    have Hy0 := Lib.hid ((Blk.new_ ((w.alloc (.cells #[.float .f64 a] 28)).alloc (.cells #[.slice Ax nx cx, .int .i64 xo, .int .i64 mr, .int .i64 xi] 32)) 32 #[.slice Ay ny cy, .int .i64 yo, .int .i64 mk, .int .i64 yi] (w.heap.size + 1 + 1) (by simp)).alloc (.cells #[.slice Am nm cm, .int .i64 mo, .int .i64 mr, .int .i64 mk, .int .i64 ml] 26))
    have Hm0 := Lib.hid (Blk.new_ (((w.alloc (.cells #[.float .f64 a] 28)).alloc (.cells #[.slice Ax nx cx, .int .i64 xo, .int .i64 mr, .int .i64 xi] 32)).alloc (.cells #[.slice Ay ny cy, .int .i64 yo, .int .i64 mk, .int .i64 yi] 32)) 26 #[.slice Am nm cm, .int .i64 mo, .int .i64 mr, .int .i64 mk, .int .i64 ml] (w.heap.size + 1 + 1 + 1) (by simp))
    have HB0 := Lib.hid (((((Below.refl w.heap.size w).alloc (Nat.le_refl _) (.cells #[.float .f64 a] 28)).alloc (by simp) (.cells #[.slice Ax nx cx, .int .i64 xo, .int .i64 mr, .int .i64 xi] 32)).alloc (by simp; omega) (.cells #[.slice Ay ny cy, .int .i64 yo, .int .i64 mk, .int .i64 yi] 32)).alloc (by simp; omega) (.cells #[.slice Am nm cm, .int .i64 mo, .int .i64 mr, .int .i64 mk, .int .i64 ml] 26))
    obtain ⟨a0, _⟩ := cells1g Ha0.out
    obtain ⟨x0, x1, x2, x3⟩ := cells4w Hx0.out
    obtain ⟨y0, y1, y2, y3⟩ := cells4w Hy0.out
    obtain ⟨m0, m1, m2, m3, m4⟩ := cells5 Hm0.out
    go_wp2_with fail
    refine (HRx.out _).mono ?_
    rintro e w1 ⟨rfl, hb⟩
    have Ha1 := Lib.hid (Ha0.out.nxt hb)
    have Hx1 := Lib.hid (Hx0.out.nxt hb)
    have Hy1 := Lib.hid (Hy0.out.nxt hb)
    have Hm1 := Lib.hid (Hm0.out.nxt hb)
    have HB1 := Lib.hid (below_nx HB0.out hb)
    clear hb
    clear a0 x0 x1 x2 x3 y0 y1 y2 y3 m0 m1 m2 m3 m4
    obtain ⟨a0, _⟩ := cells1g Ha1.out
    obtain ⟨x0, x1, x2, x3⟩ := cells4w Hx1.out
    obtain ⟨y0, y1, y2, y3⟩ := cells4w Hy1.out
    obtain ⟨m0, m1, m2, m3, m4⟩ := cells5 Hm1.out
    go_wp2_with fail
    refine (HRy.out _).mono ?_
    rintro e w2 ⟨rfl, hb⟩
    have Ha2 := Lib.hid (Ha1.out.nxt hb)
    have Hx2 := Lib.hid (Hx1.out.nxt hb)
    have Hy2 := Lib.hid (Hy1.out.nxt hb)
    have Hm2 := Lib.hid (Hm1.out.nxt hb)
    have HB2 := Lib.hid (below_nx HB1.out hb)
    clear hb
    clear a0 x0 x1 x2 x3 y0 y1 y2 y3 m0 m1 m2 m3 m4
    obtain ⟨a0, _⟩ := cells1g Ha2.out
    obtain ⟨x0, x1, x2, x3⟩ := cells4w Hx2.out
    obtain ⟨y0, y1, y2, y3⟩ := cells4w Hy2.out
    obtain ⟨m0, m1, m2, m3, m4⟩ := cells5 Hm2.out
    go_wp2_with fail
    refine (HG.out _).mono ?_
    rintro e w3 ⟨rfl, hb⟩
    have Ha3 := Lib.hid (Ha2.out.nxt hb)
    have Hx3 := Lib.hid (Hx2.out.nxt hb)
    have Hy3 := Lib.hid (Hy2.out.nxt hb)
    have Hm3 := Lib.hid (Hm2.out.nxt hb)
    have HB3 := Lib.hid (below_nx HB2.out hb)
    clear hb
    clear a0 x0 x1 x2 x3 y0 y1 y2 y3 m0 m1 m2 m3 m4
    obtain ⟨a0, _⟩ := cells1g Ha3.out
    obtain ⟨x0, x1, x2, x3⟩ := cells4w Hx3.out
    obtain ⟨y0, y1, y2, y3⟩ := cells4w Hy3.out
    obtain ⟨m0, m1, m2, m3, m4⟩ := cells5 Hm3.out
    go_wp2_with fail
    refine (HMx.out _ HB3.out).mono ?_
    rintro e w4 ⟨rfl, hb⟩
    have Ha4 := Lib.hid (Ha3.out.nxt hb)
    have Hx4 := Lib.hid (Hx3.out.nxt hb)
    have Hy4 := Lib.hid (Hy3.out.nxt hb)
    have Hm4 := Lib.hid (Hm3.out.nxt hb)
    have HB4 := Lib.hid (below_nx HB3.out hb)
    clear hb
    clear a0 x0 x1 x2 x3 y0 y1 y2 y3 m0 m1 m2 m3 m4
    obtain ⟨a0, _⟩ := cells1g Ha4.out
    obtain ⟨x0, x1, x2, x3⟩ := cells4w Hx4.out
    obtain ⟨y0, y1, y2, y3⟩ := cells4w Hy4.out
    obtain ⟨m0, m1, m2, m3, m4⟩ := cells5 Hm4.out
    go_wp2_with fail
    refine (HMy.out _ HB4.out).mono ?_
    rintro e w5 ⟨rfl, hb⟩
    have Ha5 := Lib.hid (Ha4.out.nxt hb)
    have Hx5 := Lib.hid (Hx4.out.nxt hb)
    have Hy5 := Lib.hid (Hy4.out.nxt hb)
    have Hm5 := Lib.hid (Hm4.out.nxt hb)
    have HB5 := Lib.hid (below_nx HB4.out hb)
    clear hb
    clear a0 x0 x1 x2 x3 y0 y1 y2 y3 m0 m1 m2 m3 m4
    obtain ⟨a0, _⟩ := cells1g Ha5.out
    obtain ⟨x0, x1, x2, x3⟩ := cells4w Hx5.out
    obtain ⟨y0, y1, y2, y3⟩ := cells4w Hy5.out
    obtain ⟨m0, m1, m2, m3, m4⟩ := cells5 Hm5.out
    go_wp2_with fail
    go_ret
    exact ⟨rfl, HB5.out⟩
  · clear hb
    unfold mat vec at *
    go_enter Try.func17, Try.ntmps17
    have Ha0 := Lib.hid ((((Blk.new w 28 #[.float .f64 a]).alloc (.cells #[.slice Ax nx cx, .int .i64 xo, .int .i64 mr, .int .i64 xi] 32)).alloc (.cells #[.slice Ay ny cy, .int .i64 yo, .int .i64 mk, .int .i64 yi] 32)).alloc (.cells #[.slice Am nm cm, .int .i64 mo, .int .i64 mr, .int .i64 mk, .int .i64 ml] 26))
    have Hx0 := Lib.hid (((Blk.new_ (w.alloc (.cells #[.float .f64 a] 28)) 32 #[.slice Ax nx cx, .int .i64 xo, .int .i64 mr, .int .i64 xi] (w.heap.size + 1) (by simp)).alloc (.cells #[.slice Ay ny cy, .int .i64 yo, .int .i64 mk, .int .i64 yi] 32)).alloc (.cells #[.slice Am nm cm, .int .i64 mo, .int .i64 mr, .int .i64 mk, .int .i64 ml] 26))
    have Hy0 := Lib.hid ((Blk.new_ ((w.alloc (.cells #[.float .f64 a] 28)).alloc (.cells #[.slice Ax nx cx, .int .i64 xo, .int .i64 mr, .int .i64 xi] 32)) 32 #[.slice Ay ny cy, .int .i64 yo, .int .i64 mk, .int .i64 yi] (w.heap.size + 1 + 1) (by simp)).alloc (.cells #[.slice Am nm cm, .int .i64 mo, .int .i64 mr, .int .i64 mk, .int .i64 ml] 26))
    have Hm0 := Lib.hid (Blk.new_ (((w.alloc (.cells #[.float .f64 a] 28)).alloc (.cells #[.slice Ax nx cx, .int .i64 xo, .int .i64 mr, .int .i64 xi] 32)).alloc (.cells #[.slice Ay ny cy, .int .i64 yo, .int .i64 mk, .int .i64 yi] 32)) 26 #[.slice Am nm cm, .int .i64 mo, .int .i64 mr, .int .i64 mk, .int .i64 ml] (w.heap.size + 1 + 1 + 1) (by simp))
    have HB0 := Lib.hid (((((Below.refl w.heap.size w).alloc (Nat.le_refl _) (.cells #[.float .f64 a] 28)).alloc (by simp) (.cells #[.slice Ax nx cx, .int .i64 xo, .int .i64 mr, .int .i64 xi] 32)).alloc (by simp; omega) (.cells #[.slice Ay ny cy, .int .i64 yo, .int .i64 mk, .int .i64 yi] 32)).alloc (by simp; omega) (.cells #[.slice Am nm cm, .int .i64 mo, .int .i64 mr, .int .i64 mk, .int .i64 ml] 26))
    obtain ⟨a0, _⟩ := cells1g Ha0.out
    obtain ⟨x0, x1, x2, x3⟩ := cells4w Hx0.out
    obtain ⟨y0, y1, y2, y3⟩ := cells4w Hy0.out
    obtain ⟨m0, m1, m2, m3, m4⟩ := cells5 Hm0.out
    go_wp2_with fail
    refine (HRx.out _).mono ?_
    rintro e w1 ⟨rfl, hb⟩
    have Ha1 := Lib.hid (Ha0.out.nxt hb)
    have Hx1 := Lib.hid (Hx0.out.nxt hb)
    have Hy1 := Lib.hid (Hy0.out.nxt hb)
    have Hm1 := Lib.hid (Hm0.out.nxt hb)
    have HB1 := Lib.hid (below_nx HB0.out hb)
    clear hb
    clear a0 x0 x1 x2 x3 y0 y1 y2 y3 m0 m1 m2 m3 m4
    obtain ⟨a0, _⟩ := cells1g Ha1.out
    obtain ⟨x0, x1, x2, x3⟩ := cells4w Hx1.out
    obtain ⟨y0, y1, y2, y3⟩ := cells4w Hy1.out
    obtain ⟨m0, m1, m2, m3, m4⟩ := cells5 Hm1.out
    go_wp2_with fail
    refine (HRy.out _).mono ?_
    rintro e w2 ⟨rfl, hb⟩
    have Ha2 := Lib.hid (Ha1.out.nxt hb)
    have Hx2 := Lib.hid (Hx1.out.nxt hb)
    have Hy2 := Lib.hid (Hy1.out.nxt hb)
    have Hm2 := Lib.hid (Hm1.out.nxt hb)
    have HB2 := Lib.hid (below_nx HB1.out hb)
    clear hb
    clear a0 x0 x1 x2 x3 y0 y1 y2 y3 m0 m1 m2 m3 m4
    obtain ⟨a0, _⟩ := cells1g Ha2.out
    obtain ⟨x0, x1, x2, x3⟩ := cells4w Hx2.out
    obtain ⟨y0, y1, y2, y3⟩ := cells4w Hy2.out
    obtain ⟨m0, m1, m2, m3, m4⟩ := cells5 Hm2.out
    go_wp2_with fail
    refine (HG.out _).mono ?_
    rintro e w3 ⟨rfl, hb⟩
    have Ha3 := Lib.hid (Ha2.out.nxt hb)
    have Hx3 := Lib.hid (Hx2.out.nxt hb)
    have Hy3 := Lib.hid (Hy2.out.nxt hb)
    have Hm3 := Lib.hid (Hm2.out.nxt hb)
    have HB3 := Lib.hid (below_nx HB2.out hb)
    clear hb
    clear a0 x0 x1 x2 x3 y0 y1 y2 y3 m0 m1 m2 m3 m4
    obtain ⟨a0, _⟩ := cells1g Ha3.out
    obtain ⟨x0, x1, x2, x3⟩ := cells4w Hx3.out
    obtain ⟨y0, y1, y2, y3⟩ := cells4w Hy3.out
    obtain ⟨m0, m1, m2, m3, m4⟩ := cells5 Hm3.out
    go_wp2_with fail
    refine (HMx.out _ HB3.out).mono ?_
    rintro e w4 ⟨rfl, hb⟩
    have Ha4 := Lib.hid (Ha3.out.nxt hb)
    have Hx4 := Lib.hid (Hx3.out.nxt hb)
    have Hy4 := Lib.hid (Hy3.out.nxt hb)
    have Hm4 := Lib.hid (Hm3.out.nxt hb)
    have HB4 := Lib.hid (below_nx HB3.out hb)
    clear hb
    clear a0 x0 x1 x2 x3 y0 y1 y2 y3 m0 m1 m2 m3 m4
    obtain ⟨a0, _⟩ := cells1g Ha4.out
    obtain ⟨x0, x1, x2, x3⟩ := cells4w Hx4.out
    obtain ⟨y0, y1, y2, y3⟩ := cells4w Hy4.out
    obtain ⟨m0, m1, m2, m3, m4⟩ := cells5 Hm4.out
    go_wp2_with fail
    go_ret
    exact ⟨rfl, HB4.out⟩

/-- What Ger makes of a number: a times y's, times x's, is added. -/
def GerR (a : Nat) (lx : List Nat) (ox ix : Nat) (ly : List Nat) (oy iy : Nat) (l : List Nat) (o L : Nat) (i j r : Nat) : Prop :=
  ∃ t p, Comes .mul a (ly.getD (oy + j * iy) 0) t ∧ Comes .mul t (lx.getD (ox + i * ix) 0) p ∧ Comes .add (l.getD (o + i + j * L) 0) p r
set_option maxHeartbeats 2000000 in
theorem grger_ok (a gx cx nx : Nat) (lx : List Nat) (ox ix gy cy ny : Nat) (ly : List Nat) (oy iy g c n : Nat) (l : List Nat) (o R C L : Nat) (w : World) (hOx : Own w gx lx) (hOy : Own w gy ly) (hO : Own w g l) (hlx : lx.length = nx) (hly : ly.length = ny) (hl : l.length = n)
    (hnx : nx < 1048576) (hny : ny < 1048576) (hn : n < 1048576) (hRb : R < 1048576) (hCb : C < 1048576) (hox : I64 ox) (hix : I64 ix) (hoy : I64 oy) (hiy : I64 iy) (ho : I64 o) (hLI : I64 L) (hix1 : 1 ≤ ix) (hxr : R = 0 ∨ ox + (R - 1) * ix < nx) (hiy1 : 1 ≤ iy) (hyr : C = 0 ∨ oy + (C - 1) * iy < ny)
    (hL1 : 1 ≤ L) (hRL : R ≤ L) (hmr : R = 0 ∨ C = 0 ∨ o + (C - 1) * L + (R - 1) < n) (hdx : g = gx → ∀ i, i < R → ∀ j, j < C → ∀ q, q < R → o + i + j * L ≠ ox + q * ix) (hdy : g = gy → ∀ i, i < R → ∀ j, j < C → ∀ q, q < C → o + i + j * L ≠ oy + q * iy)
    (hx : ∀ W, Below w.heap.size w W → Calls Try.prog 48 #[vec (some ⟨gx, 0, none⟩) nx cx ox R ix, mat (some ⟨g, 0, none⟩) n c o R C L] W fun e w' => e = .returned (.bool false) ∧ Below W.heap.size W w')
    (hy : ∀ W, Below w.heap.size w W → Calls Try.prog 48 #[vec (some ⟨gy, 0, none⟩) ny cy oy C iy, mat (some ⟨g, 0, none⟩) n c o R C L] W fun e w' => e = .returned (.bool false) ∧ Below W.heap.size W w') :
    Calls Try.prog 17 #[.float .f64 a, vec (some ⟨gx, 0, none⟩) nx cx ox R ix, vec (some ⟨gy, 0, none⟩) ny cy oy C iy, mat (some ⟨g, 0, none⟩) n c o R C L] w fun e w' => e = .returned (.int .i64 0) ∧ ∃ l', Own w' g l' ∧ Imr l o R C L (GerR a lx ox ix ly oy iy l o L) l' ∧ Chg [g] w w' := by
  have HRx := Lib.hid (fun W => right_any (some ⟨gx, 0, none⟩) nx cx ox R ix W (by omega) hox (by unfold I64; omega) hix)
  have HRy := Lib.hid (fun W => right_any (some ⟨gy, 0, none⟩) ny cy oy C iy W (by omega) hoy (by unfold I64; omega) hiy)
  have HG := Lib.hid (fun W => good_any (some ⟨g, 0, none⟩) n c o R C L W (by omega) ho (by unfold I64; omega) (by unfold I64; omega) hLI)
  rw [vec_right hix1 hxr] at HRx
  rw [vec_right hiy1 hyr] at HRy
  rw [mat_right hL1 hRL hmr] at HG
  have HMx := Lib.hid hx
  have HMy := Lib.hid hy
  have HPx := Lib.hid (fun q (h : q < R) => show ox + q * ix < nx from by
    rcases hxr with h0 | h0
    · omega
    · exact place_lt h0 h)
  have HPy := Lib.hid (fun q (h : q < C) => show oy + q * iy < ny from by
    rcases hyr with h0 | h0
    · omega
    · exact place_lt h0 h)
  have HEa := Lib.hid (fun W (pa px py : Nat) (hb : Below w.heap.size w W) (hz : w.heap.size ≤ pa) (hz2 : w.heap.size ≤ px) (hz3 : w.heap.size ≤ py) (hA : W.cell? ⟨pa, 0, none⟩ = some (.float .f64 a)) (hX : Blk W px 32 #[.slice (some ⟨gx, 0, none⟩) nx cx, .int .i64 ox, .int .i64 R, .int .i64 ix]) (hY : Blk W py 32 #[.slice (some ⟨gy, 0, none⟩) ny cy, .int .i64 oy, .int .i64 C, .int .i64 iy]) =>
    greach_any 50 #[.pointer (some ⟨pa, 0, none⟩), .pointer (some ⟨py, 0, none⟩), .pointer (some ⟨px, 0, none⟩)]
      (fun W => W.cell? ⟨pa, 0, none⟩ = some (.float .f64 a) ∧ Blk W px 32 #[.slice (some ⟨gx, 0, none⟩) nx cx, .int .i64 ox, .int .i64 R, .int .i64 ix] ∧ Blk W py 32 #[.slice (some ⟨gy, 0, none⟩) ny cy, .int .i64 oy, .int .i64 C, .int .i64 iy] ∧ (∀ q, q < R → W.cell? ⟨gx, 0 + (ox + q * ix), none⟩ = some (.float .f64 (lx.getD (ox + q * ix) 0))) ∧ ∀ q, q < C → W.cell? ⟨gy, 0 + (oy + q * iy), none⟩ = some (.float .f64 (ly.getD (oy + q * iy) 0)))
      (GerR a lx ox ix ly oy iy l o L) g n c l o R C L W (fun args W => grger_enters args W) (hO.nxt hb) hl hn hRL hmr hRb hCb
      ⟨hA, hX, hY, fun q hq => by
        have h1 := HPx.out q hq
        have h2 : ox + q * ix < lx.length := by omega
        rw [Nat.zero_add, getD_of_lt h2]
        exact (hOx.nxt hb).get _ h2, fun q hq => by
        have h1 := HPy.out q hq
        have h2 : oy + q * iy < ly.length := by omega
        rw [Nat.zero_add, getD_of_lt h2]
        exact (hOy.nxt hb).get _ h2⟩
      (fun W W' h hb' => ⟨cell_below h.1 hb', h.2.1.nxt hb', h.2.2.1.nxt hb', fun q hq => cell_below (h.2.2.2.1 q hq) hb', fun q hq => cell_below (h.2.2.2.2 q hq) hb'⟩)
      (fun W i j v hi hj _ h => ⟨(cell_set (by have := hO.lt; omega) _).trans h.1, h.2.1.other (by show px ≠ g; have := hO.lt; omega) _, h.2.2.1.other (by show py ≠ g; have := hO.lt; omega) _, fun q hq => by
        by_cases e : g = gx
        · refine (World.cell?_setCell_other W _ _ _ ?_).trans (h.2.2.2.1 q hq)
          intro e2
          have := hdx e i hi j hj q hq
          injection e2 with _ e3
          omega
        · exact (cell_set (fun e2 => e e2.symm) _).trans (h.2.2.2.1 q hq), fun q hq => by
        by_cases e : g = gy
        · refine (World.cell?_setCell_other W _ _ _ ?_).trans (h.2.2.2.2 q hq)
          intro e2
          have := hdy e i hi j hj q hq
          injection e2 with _ e3
          omega
        · exact (cell_set (fun e2 => e e2.symm) _).trans (h.2.2.2.2 q hq)⟩)
      (fun W i j hi hj h => by
        have := grger_one a (lx.getD (ox + i * ix) 0) (ly.getD (oy + j * iy) 0) (l.getD (o + i + j * L) 0) i j pa px py gx 0 nx cx ox R ix gy 0 ny cy oy C iy W h.1 h.2.1 h.2.2.1 (h.2.2.2.1 i hi) (h.2.2.2.2 j hj) (HPx.out i hi) (HPy.out j hj) hnx hny
        exact this.mono fun e w' ⟨t, p, r, e1, e2, e3, e4, e5⟩ => ⟨r, e1, ⟨t, p, e2, e3, e4⟩, e5⟩))
  clear hOx hOy hO hlx hly hl hnx hny hn hRb hCb hox hix hoy hiy ho hLI hix1 hxr hiy1 hyr hL1 hRL hmr hdx hdy hx hy HPx HPy
  have t1 : ((R : Int) == (R : Int)) = true := by simp
  have t1' : ((R : Int) != (R : Int)) = false := by simp
  have t2 : ((C : Int) == (C : Int)) = true := by simp
  have t2' : ((C : Int) != (C : Int)) = false := by simp
  unfold mat vec at *
  go_enter Try.func17, Try.ntmps17
  have Ha0 := Lib.hid ((((Blk.new w 28 #[.float .f64 a]).alloc (.cells #[.slice (some ⟨gx, 0, none⟩) nx cx, .int .i64 ox, .int .i64 R, .int .i64 ix] 32)).alloc (.cells #[.slice (some ⟨gy, 0, none⟩) ny cy, .int .i64 oy, .int .i64 C, .int .i64 iy] 32)).alloc (.cells #[.slice (some ⟨g, 0, none⟩) n c, .int .i64 o, .int .i64 R, .int .i64 C, .int .i64 L] 26))
  have Hx0 := Lib.hid (((Blk.new_ (w.alloc (.cells #[.float .f64 a] 28)) 32 #[.slice (some ⟨gx, 0, none⟩) nx cx, .int .i64 ox, .int .i64 R, .int .i64 ix] (w.heap.size + 1) (by simp)).alloc (.cells #[.slice (some ⟨gy, 0, none⟩) ny cy, .int .i64 oy, .int .i64 C, .int .i64 iy] 32)).alloc (.cells #[.slice (some ⟨g, 0, none⟩) n c, .int .i64 o, .int .i64 R, .int .i64 C, .int .i64 L] 26))
  have Hy0 := Lib.hid ((Blk.new_ ((w.alloc (.cells #[.float .f64 a] 28)).alloc (.cells #[.slice (some ⟨gx, 0, none⟩) nx cx, .int .i64 ox, .int .i64 R, .int .i64 ix] 32)) 32 #[.slice (some ⟨gy, 0, none⟩) ny cy, .int .i64 oy, .int .i64 C, .int .i64 iy] (w.heap.size + 1 + 1) (by simp)).alloc (.cells #[.slice (some ⟨g, 0, none⟩) n c, .int .i64 o, .int .i64 R, .int .i64 C, .int .i64 L] 26))
  have Hm0 := Lib.hid (Blk.new_ (((w.alloc (.cells #[.float .f64 a] 28)).alloc (.cells #[.slice (some ⟨gx, 0, none⟩) nx cx, .int .i64 ox, .int .i64 R, .int .i64 ix] 32)).alloc (.cells #[.slice (some ⟨gy, 0, none⟩) ny cy, .int .i64 oy, .int .i64 C, .int .i64 iy] 32)) 26 #[.slice (some ⟨g, 0, none⟩) n c, .int .i64 o, .int .i64 R, .int .i64 C, .int .i64 L] (w.heap.size + 1 + 1 + 1) (by simp))
  have HB0 := Lib.hid (((((Below.refl w.heap.size w).alloc (Nat.le_refl _) (.cells #[.float .f64 a] 28)).alloc (by simp) (.cells #[.slice (some ⟨gx, 0, none⟩) nx cx, .int .i64 ox, .int .i64 R, .int .i64 ix] 32)).alloc (by simp; omega) (.cells #[.slice (some ⟨gy, 0, none⟩) ny cy, .int .i64 oy, .int .i64 C, .int .i64 iy] 32)).alloc (by simp; omega) (.cells #[.slice (some ⟨g, 0, none⟩) n c, .int .i64 o, .int .i64 R, .int .i64 C, .int .i64 L] 26))
  obtain ⟨a0, _⟩ := cells1g Ha0.out
  obtain ⟨x0, x1, x2, x3⟩ := cells4w Hx0.out
  obtain ⟨y0, y1, y2, y3⟩ := cells4w Hy0.out
  obtain ⟨m0, m1, m2, m3, m4⟩ := cells5 Hm0.out
  go_wp2_with fail
  refine (HRx.out _).mono ?_
  rintro e w1 ⟨rfl, hb⟩
  have Ha1 := Lib.hid (Ha0.out.nxt hb)
  have Hx1 := Lib.hid (Hx0.out.nxt hb)
  have Hy1 := Lib.hid (Hy0.out.nxt hb)
  have Hm1 := Lib.hid (Hm0.out.nxt hb)
  have HB1 := Lib.hid (below_nx HB0.out hb)
  clear hb
  clear a0 x0 x1 x2 x3 y0 y1 y2 y3 m0 m1 m2 m3 m4
  obtain ⟨a0, _⟩ := cells1g Ha1.out
  obtain ⟨x0, x1, x2, x3⟩ := cells4w Hx1.out
  obtain ⟨y0, y1, y2, y3⟩ := cells4w Hy1.out
  obtain ⟨m0, m1, m2, m3, m4⟩ := cells5 Hm1.out
  go_wp2_with fail
  refine (HRy.out _).mono ?_
  rintro e w2 ⟨rfl, hb⟩
  have Ha2 := Lib.hid (Ha1.out.nxt hb)
  have Hx2 := Lib.hid (Hx1.out.nxt hb)
  have Hy2 := Lib.hid (Hy1.out.nxt hb)
  have Hm2 := Lib.hid (Hm1.out.nxt hb)
  have HB2 := Lib.hid (below_nx HB1.out hb)
  clear hb
  clear a0 x0 x1 x2 x3 y0 y1 y2 y3 m0 m1 m2 m3 m4
  obtain ⟨a0, _⟩ := cells1g Ha2.out
  obtain ⟨x0, x1, x2, x3⟩ := cells4w Hx2.out
  obtain ⟨y0, y1, y2, y3⟩ := cells4w Hy2.out
  obtain ⟨m0, m1, m2, m3, m4⟩ := cells5 Hm2.out
  go_wp2_with fail
  refine (HG.out _).mono ?_
  rintro e w3 ⟨rfl, hb⟩
  have Ha3 := Lib.hid (Ha2.out.nxt hb)
  have Hx3 := Lib.hid (Hx2.out.nxt hb)
  have Hy3 := Lib.hid (Hy2.out.nxt hb)
  have Hm3 := Lib.hid (Hm2.out.nxt hb)
  have HB3 := Lib.hid (below_nx HB2.out hb)
  clear hb
  clear a0 x0 x1 x2 x3 y0 y1 y2 y3 m0 m1 m2 m3 m4
  obtain ⟨a0, _⟩ := cells1g Ha3.out
  obtain ⟨x0, x1, x2, x3⟩ := cells4w Hx3.out
  obtain ⟨y0, y1, y2, y3⟩ := cells4w Hy3.out
  obtain ⟨m0, m1, m2, m3, m4⟩ := cells5 Hm3.out
  go_wp2_with fail
  refine (HMx.out _ HB3.out).mono ?_
  rintro e w4 ⟨rfl, hb⟩
  have Ha4 := Lib.hid (Ha3.out.nxt hb)
  have Hx4 := Lib.hid (Hx3.out.nxt hb)
  have Hy4 := Lib.hid (Hy3.out.nxt hb)
  have Hm4 := Lib.hid (Hm3.out.nxt hb)
  have HB4 := Lib.hid (below_nx HB3.out hb)
  clear hb
  clear a0 x0 x1 x2 x3 y0 y1 y2 y3 m0 m1 m2 m3 m4
  obtain ⟨a0, _⟩ := cells1g Ha4.out
  obtain ⟨x0, x1, x2, x3⟩ := cells4w Hx4.out
  obtain ⟨y0, y1, y2, y3⟩ := cells4w Hy4.out
  obtain ⟨m0, m1, m2, m3, m4⟩ := cells5 Hm4.out
  go_wp2_with fail
  refine (HMy.out _ HB4.out).mono ?_
  rintro e w5 ⟨rfl, hb⟩
  have Ha5 := Lib.hid (Ha4.out.nxt hb)
  have Hx5 := Lib.hid (Hx4.out.nxt hb)
  have Hy5 := Lib.hid (Hy4.out.nxt hb)
  have Hm5 := Lib.hid (Hm4.out.nxt hb)
  have HB5 := Lib.hid (below_nx HB4.out hb)
  clear hb
  clear a0 x0 x1 x2 x3 y0 y1 y2 y3 m0 m1 m2 m3 m4
  obtain ⟨a0, _⟩ := cells1g Ha5.out
  obtain ⟨x0, x1, x2, x3⟩ := cells4w Hx5.out
  obtain ⟨y0, y1, y2, y3⟩ := cells4w Hy5.out
  obtain ⟨m0, m1, m2, m3, m4⟩ := cells5 Hm5.out
  go_wp2_with fail
  refine (HEa.out _ _ _ _ HB5.out (Nat.le_refl _) (by omega) (by omega) a0 Hx5.out Hy5.out).mono ?_
  rintro e w6 ⟨rfl, l', hm1, hm2, _, hm3⟩
  have HM := Lib.hid (And.intro hm1 (And.intro hm2 hm3))
  clear hm1 hm2 hm3
  clear a0 x0 x1 x2 x3 y0 y1 y2 y3 m0 m1 m2 m3 m4
  go_wp2_with fail
  go_ret
  exact ⟨rfl, l', HM.out.1, HM.out.2.1, (Chg.of_below HB5.out).trans HM.out.2.2⟩
end Go.Proofs.Ytmjaakngiilmdaa
