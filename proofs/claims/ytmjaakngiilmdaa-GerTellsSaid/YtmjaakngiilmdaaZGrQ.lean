/-
GerTells, put together. Conditions: as each says.
-/
import Derived.Test.YtmjaakngiilmdaaZGrPb0
import Derived.Test.YtmjaakngiilmdaaZGrPb1
import Derived.Test.YtmjaakngiilmdaaZGrPb2
import Derived.Test.YtmjaakngiilmdaaZGrPb3
import Derived.Test.YtmjaakngiilmdaaZGrPb4
import Derived.Test.YtmjaakngiilmdaaZGrPs0
import Derived.Test.YtmjaakngiilmdaaZGrPs1
import Derived.Test.YtmjaakngiilmdaaZGrPs2
import Derived.Test.YtmjaakngiilmdaaZGrPs3
import Derived.Test.YtmjaakngiilmdaaZGrPs4
import Derived.Test.YtmjaakngiilmdaaZGrPk0
import Derived.Test.YtmjaakngiilmdaaZGrPk1
import Derived.Test.YtmjaakngiilmdaaZGrPk2
import Derived.Test.YtmjaakngiilmdaaZGrPk3
import Derived.Test.YtmjaakngiilmdaaZGrPk4
import Derived.Test.YtmjaakngiilmdaaZGrPm1
import Derived.Test.YtmjaakngiilmdaaZGrPm2
set_option linter.unusedVariables false
set_option linter.unusedSimpArgs false
set_option linter.unnecessarySimpa false
namespace Go.Proofs.Ytmjaakngiilmdaa
open Go.RowKit
attribute [local go_sem ↓] Go.wp_at_zero Go.wp_at_succ


set_option maxRecDepth 100000 in
theorem ger_case0 (a : Nat) (Ax : Option Addr) (nx cx : Nat) (lx : List Nat) (xo xk xi : Int) (Ay : Option Addr) (ny cy : Nat) (ly : List Nat) (yo yk yi : Int) (Am : Option Addr) (nm cm : Nat) (lm : List Nat) (mo mr mk ml : Int) (one : Int) (w : World) (hAx : Row w Ax (f64s lx)) (hAy : Row w Ay (f64s ly)) (hAm : Row w Am (f64s lm)) (hWx : Wds lx) (hWy : Wds ly) (hWm : Wds lm) (hlx : lx.length = nx) (hly : ly.length = ny) (hlm : lm.length = nm) (hnx : nx ≤ 1000) (hny : ny ≤ 1000) (hnm : nm ≤ 1000) (hG : greatB nm mr mk = false) (hLx : longB nx xk = false) (hLy : longB ny yk = false) (f1 : (one == 1) = false) (f2 : (one == 2) = false) (ha : a < 18446744073709551616) (hxo : I64 xo) (hxk : I64 xk) (hxi : I64 xi) (hyo : I64 yo) (hyk : I64 yk) (hyi : I64 yi) (hmo : I64 mo) (hmr : I64 mr) (hmk : I64 mk) (hml : I64 ml) (hm20 : mr ≤ 20 ∧ mk ≤ 20) :
    Calls Try.prog 4 #[.float .f64 a, vec Ax nx cx xo xk xi, vec Ay ny cy yo yk yi, mat Am nm cm mo mr mk ml, .int .i64 one] w fun e w' => e = .returned (.bool true) ∧ Below w.heap.size w w' := by
  cases h : (vecB nx xo xk xi && vecB ny yo yk yi && matB nm mo mr mk ml)
  · exact gerTells_bad0 a Ax nx cx lx xo xk xi Ay ny cy ly yo yk yi Am nm cm lm mo mr mk ml one w hAx hAy hAm hWx hWy hWm hlx hly hlm hnx hny hnm hG hLx hLy f1 f2 hxo hxk hxi hyo hyk hyi hmo hmr hmk hml h
  by_cases hs : xk = mr ∧ yk = mk
  · have h2 := h
    simp only [Bool.and_eq_true] at h2
    obtain ⟨⟨g1, g2⟩, g3⟩ := h2
    obtain ⟨o, R, C, L, rfl, rfl, rfl, rfl, hL1, hRL, hmr2⟩ := mat_nat g3
    obtain ⟨ox, K, ix, rfl, rfl, rfl, hix, hxr⟩ := vec_nat g1
    obtain ⟨oy, Q, iy, rfl, rfl, rfl, hiy, hyr⟩ := vec_nat g2
    obtain ⟨s1, s2⟩ := hs
    have s1 : K = R := by omega
    have s2 : Q = C := by omega
    subst s1
    subst s2
    exact gerTells_ok0 a Ax nx cx lx Ay ny cy ly Am nm cm lm ox ix oy iy o _ _ L one w hAx hAy hAm hWx hWy hWm hlx hly hlm hnx hny hnm hG hLx hLy f1 f2 ha (by omega) (by omega) hxo hxi hyo hyi hmo hml hix hxr hiy hyr hL1 hRL hmr2
  · refine gerTells_size0 a Ax nx cx lx xo xk xi Ay ny cy ly yo yk yi Am nm cm lm mo mr mk ml one w hAx hAy hAm hWx hWy hWm hlx hly hlm hnx hny hnm hG hLx hLy f1 f2 hxo hxk hxi hyo hyk hyi hmo hmr hmk hml h hs _ _ rfl rfl ?_
    by_cases e : xk = mr
    · right
      have e2 : ¬ yk = mk := fun e2 => hs ⟨e, e2⟩
      exact ⟨by simp [e], by simp [e2]⟩
    · left
      simp [e]

set_option maxRecDepth 100000 in
theorem ger_case1 (a : Nat) (Ax : Option Addr) (nx cx : Nat) (lx : List Nat) (xo xk xi : Int) (Ay : Option Addr) (ny cy : Nat) (ly : List Nat) (yo yk yi : Int) (Am : Option Addr) (nm cm : Nat) (lm : List Nat) (mo mr mk ml : Int) (w : World) (hAx : Row w Ax (f64s lx)) (hAy : Row w Ay (f64s ly)) (hAm : Row w Am (f64s lm)) (hWx : Wds lx) (hWy : Wds ly) (hWm : Wds lm) (hlx : lx.length = nx) (hly : ly.length = ny) (hlm : lm.length = nm) (hnx : nx ≤ 1000) (hny : ny ≤ 1000) (hnm : nm ≤ 1000) (hG : greatB nm mr mk = false) (hLx : longB nx xk = false) (hLy : longB ny yk = false) (hn0 : 0 < nm) (ha : a < 18446744073709551616) (hxo : I64 xo) (hxk : I64 xk) (hxi : I64 xi) (hyo : I64 yo) (hyk : I64 yk) (hyi : I64 yi) (hmo : I64 mo) (hmr : I64 mr) (hmk : I64 mk) (hml : I64 ml) (hm20 : mr ≤ 20 ∧ mk ≤ 20) :
    Calls Try.prog 4 #[.float .f64 a, vec Ax nx cx xo xk xi, vec Ay ny cy yo yk yi, mat Am nm cm mo mr mk ml, .int .i64 1] w fun e w' => e = .returned (.bool true) ∧ Below w.heap.size w w' := by
  cases h : (vecB nm xo xk xi && vecB ny yo yk yi && matB nm mo mr mk ml)
  · exact gerTells_bad1 a Ax nx cx lx xo xk xi Ay ny cy ly yo yk yi Am nm cm lm mo mr mk ml w hAx hAy hAm hWx hWy hWm hlx hly hlm hnx hny hnm hG hLx hLy hn0 hxo hxk hxi hyo hyk hyi hmo hmr hmk hml h
  by_cases hs : xk = mr ∧ yk = mk
  · have h2 := h
    simp only [Bool.and_eq_true] at h2
    obtain ⟨⟨g1, g2⟩, g3⟩ := h2
    obtain ⟨o, R, C, L, rfl, rfl, rfl, rfl, hL1, hRL, hmr2⟩ := mat_nat g3
    obtain ⟨ox, K, ix, rfl, rfl, rfl, hix, hxr⟩ := vec_nat g1
    obtain ⟨oy, Q, iy, rfl, rfl, rfl, hiy, hyr⟩ := vec_nat g2
    obtain ⟨s1, s2⟩ := hs
    have s1 : K = R := by omega
    have s2 : Q = C := by omega
    subst s1
    subst s2
    cases hsp : spB (vsA ox K) (vsB ox K ix) (msA o K Q) (msB o K Q L)
    · exact gerTells_ok1 a Ax nx cx lx Ay ny cy ly Am nm cm lm ox ix oy iy o _ _ L w hAx hAy hAm hWx hWy hWm hlx hly hlm hnx hny hnm hG hLx hLy hn0 ha (by omega) (by omega) hxo hxi hyo hyi hmo hml hix hxr hiy hyr hL1 hRL hmr2 hsp
    · exact gerTells_meet1 a Ax nx cx lx Ay ny cy ly Am nm cm lm ox ix oy iy o _ _ L w hAx hAy hAm hWx hWy hWm hlx hly hlm hnx hny hnm hG hLx hLy hn0 ha (by omega) (by omega) hxo hxi hyo hyi hmo hml hix hxr hiy hyr hL1 hRL hmr2 hsp
  · refine gerTells_size1 a Ax nx cx lx xo xk xi Ay ny cy ly yo yk yi Am nm cm lm mo mr mk ml w hAx hAy hAm hWx hWy hWm hlx hly hlm hnx hny hnm hG hLx hLy hn0 hxo hxk hxi hyo hyk hyi hmo hmr hmk hml h hs _ _ rfl rfl ?_
    by_cases e : xk = mr
    · right
      have e2 : ¬ yk = mk := fun e2 => hs ⟨e, e2⟩
      exact ⟨by simp [e], by simp [e2]⟩
    · left
      simp [e]

set_option maxRecDepth 100000 in
theorem ger_case2 (a : Nat) (Ax : Option Addr) (nx cx : Nat) (lx : List Nat) (xo xk xi : Int) (Ay : Option Addr) (ny cy : Nat) (ly : List Nat) (yo yk yi : Int) (Am : Option Addr) (nm cm : Nat) (lm : List Nat) (mo mr mk ml : Int) (w : World) (hAx : Row w Ax (f64s lx)) (hAy : Row w Ay (f64s ly)) (hAm : Row w Am (f64s lm)) (hWx : Wds lx) (hWy : Wds ly) (hWm : Wds lm) (hlx : lx.length = nx) (hly : ly.length = ny) (hlm : lm.length = nm) (hnx : nx ≤ 1000) (hny : ny ≤ 1000) (hnm : nm ≤ 1000) (hG : greatB nm mr mk = false) (hLx : longB nx xk = false) (hLy : longB ny yk = false) (hn0 : 0 < nm) (ha : a < 18446744073709551616) (hxo : I64 xo) (hxk : I64 xk) (hxi : I64 xi) (hyo : I64 yo) (hyk : I64 yk) (hyi : I64 yi) (hmo : I64 mo) (hmr : I64 mr) (hmk : I64 mk) (hml : I64 ml) (hm20 : mr ≤ 20 ∧ mk ≤ 20) :
    Calls Try.prog 4 #[.float .f64 a, vec Ax nx cx xo xk xi, vec Ay ny cy yo yk yi, mat Am nm cm mo mr mk ml, .int .i64 2] w fun e w' => e = .returned (.bool true) ∧ Below w.heap.size w w' := by
  cases h : (vecB nx xo xk xi && vecB nm yo yk yi && matB nm mo mr mk ml)
  · exact gerTells_bad2 a Ax nx cx lx xo xk xi Ay ny cy ly yo yk yi Am nm cm lm mo mr mk ml w hAx hAy hAm hWx hWy hWm hlx hly hlm hnx hny hnm hG hLx hLy hn0 hxo hxk hxi hyo hyk hyi hmo hmr hmk hml h
  by_cases hs : xk = mr ∧ yk = mk
  · have h2 := h
    simp only [Bool.and_eq_true] at h2
    obtain ⟨⟨g1, g2⟩, g3⟩ := h2
    obtain ⟨o, R, C, L, rfl, rfl, rfl, rfl, hL1, hRL, hmr2⟩ := mat_nat g3
    obtain ⟨ox, K, ix, rfl, rfl, rfl, hix, hxr⟩ := vec_nat g1
    obtain ⟨oy, Q, iy, rfl, rfl, rfl, hiy, hyr⟩ := vec_nat g2
    obtain ⟨s1, s2⟩ := hs
    have s1 : K = R := by omega
    have s2 : Q = C := by omega
    subst s1
    subst s2
    cases hsp : spB (vsA oy Q) (vsB oy Q iy) (msA o K Q) (msB o K Q L)
    · exact gerTells_ok2 a Ax nx cx lx Ay ny cy ly Am nm cm lm ox ix oy iy o _ _ L w hAx hAy hAm hWx hWy hWm hlx hly hlm hnx hny hnm hG hLx hLy hn0 ha (by omega) (by omega) hxo hxi hyo hyi hmo hml hix hxr hiy hyr hL1 hRL hmr2 hsp
    · exact gerTells_meet2 a Ax nx cx lx Ay ny cy ly Am nm cm lm ox ix oy iy o _ _ L w hAx hAy hAm hWx hWy hWm hlx hly hlm hnx hny hnm hG hLx hLy hn0 ha (by omega) (by omega) hxo hxi hyo hyi hmo hml hix hxr hiy hyr hL1 hRL hmr2 hsp
  · refine gerTells_size2 a Ax nx cx lx xo xk xi Ay ny cy ly yo yk yi Am nm cm lm mo mr mk ml w hAx hAy hAm hWx hWy hWm hlx hly hlm hnx hny hnm hG hLx hLy hn0 hxo hxk hxi hyo hyk hyi hmo hmr hmk hml h hs _ _ rfl rfl ?_
    by_cases e : xk = mr
    · right
      have e2 : ¬ yk = mk := fun e2 => hs ⟨e, e2⟩
      exact ⟨by simp [e], by simp [e2]⟩
    · left
      simp [e]

set_option maxRecDepth 100000 in
theorem ger_case3 (a : Nat) (Ax : Option Addr) (nx cx : Nat) (lx : List Nat) (xo xk xi : Int) (Ay : Option Addr) (ny cy : Nat) (ly : List Nat) (yo yk yi : Int) (Am : Option Addr) (nm cm : Nat) (lm : List Nat) (mo mr mk ml : Int) (w : World) (hAx : Row w Ax (f64s lx)) (hAy : Row w Ay (f64s ly)) (hAm : Row w Am (f64s lm)) (hWx : Wds lx) (hWy : Wds ly) (hWm : Wds lm) (hlx : lx.length = nx) (hly : ly.length = ny) (hlm : lm.length = nm) (hnx : nx ≤ 1000) (hny : ny ≤ 1000) (hnm : nm ≤ 1000) (hG : greatB nm mr mk = false) (hLx : longB nx xk = false) (hLy : longB ny yk = false) (hn0 : nm = 0) (ha : a < 18446744073709551616) (hxo : I64 xo) (hxk : I64 xk) (hxi : I64 xi) (hyo : I64 yo) (hyk : I64 yk) (hyi : I64 yi) (hmo : I64 mo) (hmr : I64 mr) (hmk : I64 mk) (hml : I64 ml) (hm20 : mr ≤ 20 ∧ mk ≤ 20) :
    Calls Try.prog 4 #[.float .f64 a, vec Ax nx cx xo xk xi, vec Ay ny cy yo yk yi, mat Am nm cm mo mr mk ml, .int .i64 1] w fun e w' => e = .returned (.bool true) ∧ Below w.heap.size w w' := by
  cases h : (vecB nx xo xk xi && vecB ny yo yk yi && matB nm mo mr mk ml)
  · exact gerTells_bad3 a Ax nx cx lx xo xk xi Ay ny cy ly yo yk yi Am nm cm lm mo mr mk ml w hAx hAy hAm hWx hWy hWm hlx hly hlm hnx hny hnm hG hLx hLy hn0 hxo hxk hxi hyo hyk hyi hmo hmr hmk hml h
  by_cases hs : xk = mr ∧ yk = mk
  · have h2 := h
    simp only [Bool.and_eq_true] at h2
    obtain ⟨⟨g1, g2⟩, g3⟩ := h2
    obtain ⟨o, R, C, L, rfl, rfl, rfl, rfl, hL1, hRL, hmr2⟩ := mat_nat g3
    obtain ⟨ox, K, ix, rfl, rfl, rfl, hix, hxr⟩ := vec_nat g1
    obtain ⟨oy, Q, iy, rfl, rfl, rfl, hiy, hyr⟩ := vec_nat g2
    obtain ⟨s1, s2⟩ := hs
    have s1 : K = R := by omega
    have s2 : Q = C := by omega
    subst s1
    subst s2
    exact gerTells_ok3 a Ax nx cx lx Ay ny cy ly Am nm cm lm ox ix oy iy o _ _ L w hAx hAy hAm hWx hWy hWm hlx hly hlm hnx hny hnm hG hLx hLy hn0 ha (by omega) (by omega) hxo hxi hyo hyi hmo hml hix hxr hiy hyr hL1 hRL hmr2
  · refine gerTells_size3 a Ax nx cx lx xo xk xi Ay ny cy ly yo yk yi Am nm cm lm mo mr mk ml w hAx hAy hAm hWx hWy hWm hlx hly hlm hnx hny hnm hG hLx hLy hn0 hxo hxk hxi hyo hyk hyi hmo hmr hmk hml h hs _ _ rfl rfl ?_
    by_cases e : xk = mr
    · right
      have e2 : ¬ yk = mk := fun e2 => hs ⟨e, e2⟩
      exact ⟨by simp [e], by simp [e2]⟩
    · left
      simp [e]

set_option maxRecDepth 100000 in
theorem ger_case4 (a : Nat) (Ax : Option Addr) (nx cx : Nat) (lx : List Nat) (xo xk xi : Int) (Ay : Option Addr) (ny cy : Nat) (ly : List Nat) (yo yk yi : Int) (Am : Option Addr) (nm cm : Nat) (lm : List Nat) (mo mr mk ml : Int) (w : World) (hAx : Row w Ax (f64s lx)) (hAy : Row w Ay (f64s ly)) (hAm : Row w Am (f64s lm)) (hWx : Wds lx) (hWy : Wds ly) (hWm : Wds lm) (hlx : lx.length = nx) (hly : ly.length = ny) (hlm : lm.length = nm) (hnx : nx ≤ 1000) (hny : ny ≤ 1000) (hnm : nm ≤ 1000) (hG : greatB nm mr mk = false) (hLx : longB nx xk = false) (hLy : longB ny yk = false) (hn0 : nm = 0) (ha : a < 18446744073709551616) (hxo : I64 xo) (hxk : I64 xk) (hxi : I64 xi) (hyo : I64 yo) (hyk : I64 yk) (hyi : I64 yi) (hmo : I64 mo) (hmr : I64 mr) (hmk : I64 mk) (hml : I64 ml) (hm20 : mr ≤ 20 ∧ mk ≤ 20) :
    Calls Try.prog 4 #[.float .f64 a, vec Ax nx cx xo xk xi, vec Ay ny cy yo yk yi, mat Am nm cm mo mr mk ml, .int .i64 2] w fun e w' => e = .returned (.bool true) ∧ Below w.heap.size w w' := by
  cases h : (vecB nx xo xk xi && vecB ny yo yk yi && matB nm mo mr mk ml)
  · exact gerTells_bad4 a Ax nx cx lx xo xk xi Ay ny cy ly yo yk yi Am nm cm lm mo mr mk ml w hAx hAy hAm hWx hWy hWm hlx hly hlm hnx hny hnm hG hLx hLy hn0 hxo hxk hxi hyo hyk hyi hmo hmr hmk hml h
  by_cases hs : xk = mr ∧ yk = mk
  · have h2 := h
    simp only [Bool.and_eq_true] at h2
    obtain ⟨⟨g1, g2⟩, g3⟩ := h2
    obtain ⟨o, R, C, L, rfl, rfl, rfl, rfl, hL1, hRL, hmr2⟩ := mat_nat g3
    obtain ⟨ox, K, ix, rfl, rfl, rfl, hix, hxr⟩ := vec_nat g1
    obtain ⟨oy, Q, iy, rfl, rfl, rfl, hiy, hyr⟩ := vec_nat g2
    obtain ⟨s1, s2⟩ := hs
    have s1 : K = R := by omega
    have s2 : Q = C := by omega
    subst s1
    subst s2
    exact gerTells_ok4 a Ax nx cx lx Ay ny cy ly Am nm cm lm ox ix oy iy o _ _ L w hAx hAy hAm hWx hWy hWm hlx hly hlm hnx hny hnm hG hLx hLy hn0 ha (by omega) (by omega) hxo hxi hyo hyi hmo hml hix hxr hiy hyr hL1 hRL hmr2
  · refine gerTells_size4 a Ax nx cx lx xo xk xi Ay ny cy ly yo yk yi Am nm cm lm mo mr mk ml w hAx hAy hAm hWx hWy hWm hlx hly hlm hnx hny hnm hG hLx hLy hn0 hxo hxk hxi hyo hyk hyi hmo hmr hmk hml h hs _ _ rfl rfl ?_
    by_cases e : xk = mr
    · right
      have e2 : ¬ yk = mk := fun e2 => hs ⟨e, e2⟩
      exact ⟨by simp [e], by simp [e2]⟩
    · left
      simp [e]

set_option maxRecDepth 100000 in
set_option maxHeartbeats 4000000 in
theorem gerTells_great (a : Nat) (Ax : Option Addr) (nx cx : Nat) (xo xk xi : Int) (Ay : Option Addr) (ny cy : Nat) (yo yk yi : Int) (Am : Option Addr) (nm cm : Nat) (mo mr mk ml one : Int) (w : World) (h : (greatB nm mr mk || longB nx xk || longB ny yk) = true) :
    Calls Try.prog 4 #[.float .f64 a, vec Ax nx cx xo xk xi, vec Ay ny cy yo yk yi, mat Am nm cm mo mr mk ml, .int .i64 one] w fun e w' => e = .returned (.bool true) ∧ Below w.heap.size w w' := by
  have HGr := Lib.hid (fun W => great_any Am nm cm mo mr mk ml W)
  have HLx := Lib.hid (fun W => long_any Ax nx cx xo xk xi W)
  have HLy := Lib.hid (fun W => long_any Ay ny cy yo yk yi W)
  generalize greatB nm mr mk = b1 at *
  generalize longB nx xk = b2 at *
  generalize longB ny yk = b3 at *
  cases b1
  · cases b2
    · have hb3 : b3 = true := by simpa using h
      subst hb3
      clear h
      unfold mat vec at *
      go_enter Try.func4, Try.ntmps4
      have Hx0 := Lib.hid (((Blk.new w 32 #[.slice Ax nx cx, .int .i64 xo, .int .i64 xk, .int .i64 xi]).alloc (.cells #[.slice Ay ny cy, .int .i64 yo, .int .i64 yk, .int .i64 yi] 32)).alloc (.cells #[.slice Am nm cm, .int .i64 mo, .int .i64 mr, .int .i64 mk, .int .i64 ml] 26))
      have Hy0 := Lib.hid ((Blk.new_ (w.alloc (.cells #[.slice Ax nx cx, .int .i64 xo, .int .i64 xk, .int .i64 xi] 32)) 32 #[.slice Ay ny cy, .int .i64 yo, .int .i64 yk, .int .i64 yi] (w.heap.size + 1) (by simp)).alloc (.cells #[.slice Am nm cm, .int .i64 mo, .int .i64 mr, .int .i64 mk, .int .i64 ml] 26))
      have Hm0 := Lib.hid (Blk.new_ ((w.alloc (.cells #[.slice Ax nx cx, .int .i64 xo, .int .i64 xk, .int .i64 xi] 32)).alloc (.cells #[.slice Ay ny cy, .int .i64 yo, .int .i64 yk, .int .i64 yi] 32)) 26 #[.slice Am nm cm, .int .i64 mo, .int .i64 mr, .int .i64 mk, .int .i64 ml] (w.heap.size + 1 + 1) (by simp))
      have HB0 := Lib.hid ((((Below.refl w.heap.size w).alloc (Nat.le_refl _) (.cells #[.slice Ax nx cx, .int .i64 xo, .int .i64 xk, .int .i64 xi] 32)).alloc (by simp) (.cells #[.slice Ay ny cy, .int .i64 yo, .int .i64 yk, .int .i64 yi] 32)).alloc (by simp; omega) (.cells #[.slice Am nm cm, .int .i64 mo, .int .i64 mr, .int .i64 mk, .int .i64 ml] 26))
      obtain ⟨x0, x1, x2, x3⟩ := cells4w Hx0.out
      obtain ⟨y0, y1, y2, y3⟩ := cells4w Hy0.out
      obtain ⟨m0, m1, m2, m3, m4⟩ := cells5 Hm0.out
      go_wp2_with fail
      refine (awake8_any _).mono ?_
      rintro e w1 ⟨rfl, hb⟩
      have Hx1 := Lib.hid (Hx0.out.nxt hb)
      have Hy1 := Lib.hid (Hy0.out.nxt hb)
      have Hm1 := Lib.hid (Hm0.out.nxt hb)
      have HB1 := Lib.hid (below_nx HB0.out hb)
      clear hb
      clear x0 x1 x2 x3 y0 y1 y2 y3 m0 m1 m2 m3 m4
      obtain ⟨x0, x1, x2, x3⟩ := cells4w Hx1.out
      obtain ⟨y0, y1, y2, y3⟩ := cells4w Hy1.out
      obtain ⟨m0, m1, m2, m3, m4⟩ := cells5 Hm1.out
      go_wp2_with fail
      refine (HGr.out _).mono ?_
      rintro e w2 ⟨rfl, hb⟩
      have Hx2 := Lib.hid (Hx1.out.nxt hb)
      have Hy2 := Lib.hid (Hy1.out.nxt hb)
      have Hm2 := Lib.hid (Hm1.out.nxt hb)
      have HB2 := Lib.hid (below_nx HB1.out hb)
      clear hb
      clear x0 x1 x2 x3 y0 y1 y2 y3 m0 m1 m2 m3 m4
      obtain ⟨x0, x1, x2, x3⟩ := cells4w Hx2.out
      obtain ⟨y0, y1, y2, y3⟩ := cells4w Hy2.out
      obtain ⟨m0, m1, m2, m3, m4⟩ := cells5 Hm2.out
      go_wp2_with fail
      refine (HLx.out _).mono ?_
      rintro e w3 ⟨rfl, hb⟩
      have Hx3 := Lib.hid (Hx2.out.nxt hb)
      have Hy3 := Lib.hid (Hy2.out.nxt hb)
      have Hm3 := Lib.hid (Hm2.out.nxt hb)
      have HB3 := Lib.hid (below_nx HB2.out hb)
      clear hb
      clear x0 x1 x2 x3 y0 y1 y2 y3 m0 m1 m2 m3 m4
      obtain ⟨x0, x1, x2, x3⟩ := cells4w Hx3.out
      obtain ⟨y0, y1, y2, y3⟩ := cells4w Hy3.out
      obtain ⟨m0, m1, m2, m3, m4⟩ := cells5 Hm3.out
      go_wp2_with fail
      refine (HLy.out _).mono ?_
      rintro e w4 ⟨rfl, hb⟩
      have Hx4 := Lib.hid (Hx3.out.nxt hb)
      have Hy4 := Lib.hid (Hy3.out.nxt hb)
      have Hm4 := Lib.hid (Hm3.out.nxt hb)
      have HB4 := Lib.hid (below_nx HB3.out hb)
      clear hb
      clear x0 x1 x2 x3 y0 y1 y2 y3 m0 m1 m2 m3 m4
      obtain ⟨x0, x1, x2, x3⟩ := cells4w Hx4.out
      obtain ⟨y0, y1, y2, y3⟩ := cells4w Hy4.out
      obtain ⟨m0, m1, m2, m3, m4⟩ := cells5 Hm4.out
      go_wp2_with fail
      refine (awake8_any _).mono ?_
      rintro e w5 ⟨rfl, hb⟩
      have Hx5 := Lib.hid (Hx4.out.nxt hb)
      have Hy5 := Lib.hid (Hy4.out.nxt hb)
      have Hm5 := Lib.hid (Hm4.out.nxt hb)
      have HB5 := Lib.hid (below_nx HB4.out hb)
      clear hb
      clear x0 x1 x2 x3 y0 y1 y2 y3 m0 m1 m2 m3 m4
      obtain ⟨x0, x1, x2, x3⟩ := cells4w Hx5.out
      obtain ⟨y0, y1, y2, y3⟩ := cells4w Hy5.out
      obtain ⟨m0, m1, m2, m3, m4⟩ := cells5 Hm5.out
      go_wp2_with fail
      go_ret
      exact ⟨rfl, HB5.out⟩
    · clear h
      unfold mat vec at *
      go_enter Try.func4, Try.ntmps4
      have Hx0 := Lib.hid (((Blk.new w 32 #[.slice Ax nx cx, .int .i64 xo, .int .i64 xk, .int .i64 xi]).alloc (.cells #[.slice Ay ny cy, .int .i64 yo, .int .i64 yk, .int .i64 yi] 32)).alloc (.cells #[.slice Am nm cm, .int .i64 mo, .int .i64 mr, .int .i64 mk, .int .i64 ml] 26))
      have Hy0 := Lib.hid ((Blk.new_ (w.alloc (.cells #[.slice Ax nx cx, .int .i64 xo, .int .i64 xk, .int .i64 xi] 32)) 32 #[.slice Ay ny cy, .int .i64 yo, .int .i64 yk, .int .i64 yi] (w.heap.size + 1) (by simp)).alloc (.cells #[.slice Am nm cm, .int .i64 mo, .int .i64 mr, .int .i64 mk, .int .i64 ml] 26))
      have Hm0 := Lib.hid (Blk.new_ ((w.alloc (.cells #[.slice Ax nx cx, .int .i64 xo, .int .i64 xk, .int .i64 xi] 32)).alloc (.cells #[.slice Ay ny cy, .int .i64 yo, .int .i64 yk, .int .i64 yi] 32)) 26 #[.slice Am nm cm, .int .i64 mo, .int .i64 mr, .int .i64 mk, .int .i64 ml] (w.heap.size + 1 + 1) (by simp))
      have HB0 := Lib.hid ((((Below.refl w.heap.size w).alloc (Nat.le_refl _) (.cells #[.slice Ax nx cx, .int .i64 xo, .int .i64 xk, .int .i64 xi] 32)).alloc (by simp) (.cells #[.slice Ay ny cy, .int .i64 yo, .int .i64 yk, .int .i64 yi] 32)).alloc (by simp; omega) (.cells #[.slice Am nm cm, .int .i64 mo, .int .i64 mr, .int .i64 mk, .int .i64 ml] 26))
      obtain ⟨x0, x1, x2, x3⟩ := cells4w Hx0.out
      obtain ⟨y0, y1, y2, y3⟩ := cells4w Hy0.out
      obtain ⟨m0, m1, m2, m3, m4⟩ := cells5 Hm0.out
      go_wp2_with fail
      refine (awake8_any _).mono ?_
      rintro e w1 ⟨rfl, hb⟩
      have Hx1 := Lib.hid (Hx0.out.nxt hb)
      have Hy1 := Lib.hid (Hy0.out.nxt hb)
      have Hm1 := Lib.hid (Hm0.out.nxt hb)
      have HB1 := Lib.hid (below_nx HB0.out hb)
      clear hb
      clear x0 x1 x2 x3 y0 y1 y2 y3 m0 m1 m2 m3 m4
      obtain ⟨x0, x1, x2, x3⟩ := cells4w Hx1.out
      obtain ⟨y0, y1, y2, y3⟩ := cells4w Hy1.out
      obtain ⟨m0, m1, m2, m3, m4⟩ := cells5 Hm1.out
      go_wp2_with fail
      refine (HGr.out _).mono ?_
      rintro e w2 ⟨rfl, hb⟩
      have Hx2 := Lib.hid (Hx1.out.nxt hb)
      have Hy2 := Lib.hid (Hy1.out.nxt hb)
      have Hm2 := Lib.hid (Hm1.out.nxt hb)
      have HB2 := Lib.hid (below_nx HB1.out hb)
      clear hb
      clear x0 x1 x2 x3 y0 y1 y2 y3 m0 m1 m2 m3 m4
      obtain ⟨x0, x1, x2, x3⟩ := cells4w Hx2.out
      obtain ⟨y0, y1, y2, y3⟩ := cells4w Hy2.out
      obtain ⟨m0, m1, m2, m3, m4⟩ := cells5 Hm2.out
      go_wp2_with fail
      refine (HLx.out _).mono ?_
      rintro e w3 ⟨rfl, hb⟩
      have Hx3 := Lib.hid (Hx2.out.nxt hb)
      have Hy3 := Lib.hid (Hy2.out.nxt hb)
      have Hm3 := Lib.hid (Hm2.out.nxt hb)
      have HB3 := Lib.hid (below_nx HB2.out hb)
      clear hb
      clear x0 x1 x2 x3 y0 y1 y2 y3 m0 m1 m2 m3 m4
      obtain ⟨x0, x1, x2, x3⟩ := cells4w Hx3.out
      obtain ⟨y0, y1, y2, y3⟩ := cells4w Hy3.out
      obtain ⟨m0, m1, m2, m3, m4⟩ := cells5 Hm3.out
      go_wp2_with fail
      refine (awake8_any _).mono ?_
      rintro e w5 ⟨rfl, hb⟩
      have Hx4 := Lib.hid (Hx3.out.nxt hb)
      have Hy4 := Lib.hid (Hy3.out.nxt hb)
      have Hm4 := Lib.hid (Hm3.out.nxt hb)
      have HB4 := Lib.hid (below_nx HB3.out hb)
      clear hb
      clear x0 x1 x2 x3 y0 y1 y2 y3 m0 m1 m2 m3 m4
      obtain ⟨x0, x1, x2, x3⟩ := cells4w Hx4.out
      obtain ⟨y0, y1, y2, y3⟩ := cells4w Hy4.out
      obtain ⟨m0, m1, m2, m3, m4⟩ := cells5 Hm4.out
      go_wp2_with fail
      go_ret
      exact ⟨rfl, HB4.out⟩
  · clear h
    unfold mat vec at *
    go_enter Try.func4, Try.ntmps4
    have Hx0 := Lib.hid (((Blk.new w 32 #[.slice Ax nx cx, .int .i64 xo, .int .i64 xk, .int .i64 xi]).alloc (.cells #[.slice Ay ny cy, .int .i64 yo, .int .i64 yk, .int .i64 yi] 32)).alloc (.cells #[.slice Am nm cm, .int .i64 mo, .int .i64 mr, .int .i64 mk, .int .i64 ml] 26))
    have Hy0 := Lib.hid ((Blk.new_ (w.alloc (.cells #[.slice Ax nx cx, .int .i64 xo, .int .i64 xk, .int .i64 xi] 32)) 32 #[.slice Ay ny cy, .int .i64 yo, .int .i64 yk, .int .i64 yi] (w.heap.size + 1) (by simp)).alloc (.cells #[.slice Am nm cm, .int .i64 mo, .int .i64 mr, .int .i64 mk, .int .i64 ml] 26))
    have Hm0 := Lib.hid (Blk.new_ ((w.alloc (.cells #[.slice Ax nx cx, .int .i64 xo, .int .i64 xk, .int .i64 xi] 32)).alloc (.cells #[.slice Ay ny cy, .int .i64 yo, .int .i64 yk, .int .i64 yi] 32)) 26 #[.slice Am nm cm, .int .i64 mo, .int .i64 mr, .int .i64 mk, .int .i64 ml] (w.heap.size + 1 + 1) (by simp))
    have HB0 := Lib.hid ((((Below.refl w.heap.size w).alloc (Nat.le_refl _) (.cells #[.slice Ax nx cx, .int .i64 xo, .int .i64 xk, .int .i64 xi] 32)).alloc (by simp) (.cells #[.slice Ay ny cy, .int .i64 yo, .int .i64 yk, .int .i64 yi] 32)).alloc (by simp; omega) (.cells #[.slice Am nm cm, .int .i64 mo, .int .i64 mr, .int .i64 mk, .int .i64 ml] 26))
    obtain ⟨x0, x1, x2, x3⟩ := cells4w Hx0.out
    obtain ⟨y0, y1, y2, y3⟩ := cells4w Hy0.out
    obtain ⟨m0, m1, m2, m3, m4⟩ := cells5 Hm0.out
    go_wp2_with fail
    refine (awake8_any _).mono ?_
    rintro e w1 ⟨rfl, hb⟩
    have Hx1 := Lib.hid (Hx0.out.nxt hb)
    have Hy1 := Lib.hid (Hy0.out.nxt hb)
    have Hm1 := Lib.hid (Hm0.out.nxt hb)
    have HB1 := Lib.hid (below_nx HB0.out hb)
    clear hb
    clear x0 x1 x2 x3 y0 y1 y2 y3 m0 m1 m2 m3 m4
    obtain ⟨x0, x1, x2, x3⟩ := cells4w Hx1.out
    obtain ⟨y0, y1, y2, y3⟩ := cells4w Hy1.out
    obtain ⟨m0, m1, m2, m3, m4⟩ := cells5 Hm1.out
    go_wp2_with fail
    refine (HGr.out _).mono ?_
    rintro e w2 ⟨rfl, hb⟩
    have Hx2 := Lib.hid (Hx1.out.nxt hb)
    have Hy2 := Lib.hid (Hy1.out.nxt hb)
    have Hm2 := Lib.hid (Hm1.out.nxt hb)
    have HB2 := Lib.hid (below_nx HB1.out hb)
    clear hb
    clear x0 x1 x2 x3 y0 y1 y2 y3 m0 m1 m2 m3 m4
    obtain ⟨x0, x1, x2, x3⟩ := cells4w Hx2.out
    obtain ⟨y0, y1, y2, y3⟩ := cells4w Hy2.out
    obtain ⟨m0, m1, m2, m3, m4⟩ := cells5 Hm2.out
    go_wp2_with fail
    refine (awake8_any _).mono ?_
    rintro e w5 ⟨rfl, hb⟩
    have Hx3 := Lib.hid (Hx2.out.nxt hb)
    have Hy3 := Lib.hid (Hy2.out.nxt hb)
    have Hm3 := Lib.hid (Hm2.out.nxt hb)
    have HB3 := Lib.hid (below_nx HB2.out hb)
    clear hb
    clear x0 x1 x2 x3 y0 y1 y2 y3 m0 m1 m2 m3 m4
    obtain ⟨x0, x1, x2, x3⟩ := cells4w Hx3.out
    obtain ⟨y0, y1, y2, y3⟩ := cells4w Hy3.out
    obtain ⟨m0, m1, m2, m3, m4⟩ := cells5 Hm3.out
    go_wp2_with fail
    go_ret
    exact ⟨rfl, HB3.out⟩

theorem gerTells_walk (a : Nat) (Ax : Option Addr) (cx : Nat) (lx : List Nat) (xo xk xi : Int) (Ay : Option Addr) (cy : Nat) (ly : List Nat) (yo yk yi : Int) (Am : Option Addr) (cm : Nat) (lm : List Nat) (mo mr mk ml one : Int) (w : World) (ha : a < 18446744073709551616) (hAx : Row w Ax (f64s lx)) (hWx : Wds lx) (hxo : I64 xo) (hxk : I64 xk) (hxi : I64 xi)
    (hAy : Row w Ay (f64s ly)) (hWy : Wds ly) (hyo : I64 yo) (hyk : I64 yk) (hyi : I64 yi) (hAm : Row w Am (f64s lm)) (hWm : Wds lm) (hmo : I64 mo) (hmr : I64 mr) (hmk : I64 mk) (hml : I64 ml) :
    Calls Try.prog 4 #[.float .f64 a, vec Ax lx.length cx xo xk xi, vec Ay ly.length cy yo yk yi, mat Am lm.length cm mo mr mk ml, .int .i64 one] w fun e w' => e = .returned (.bool true) ∧ Below w.heap.size w w' := by
  cases hG : greatB lm.length mr mk
  · cases hLx : longB lx.length xk
    · cases hLy : longB ly.length yk
      · have q1 : lm.length ≤ 1000 ∧ mr ≤ 20 ∧ mk ≤ 20 := by have h := hG; unfold greatB at h; simp at h; omega
        have q2 : lx.length ≤ 1000 ∧ xk ≤ 60 := by have h := hLx; unfold longB at h; simp at h; omega
        have q3 : ly.length ≤ 1000 ∧ yk ≤ 60 := by have h := hLy; unfold longB at h; simp at h; omega
        by_cases s1 : one = 1
        · subst s1
          rcases Nat.eq_zero_or_pos lm.length with h0 | h0
          · exact ger_case3 a Ax _ cx lx xo xk xi Ay _ cy ly yo yk yi Am _ cm lm mo mr mk ml w hAx hAy hAm hWx hWy hWm rfl rfl rfl q2.1 q3.1 q1.1 hG hLx hLy h0 ha hxo hxk hxi hyo hyk hyi hmo hmr hmk hml q1.2
          · exact ger_case1 a Ax _ cx lx xo xk xi Ay _ cy ly yo yk yi Am _ cm lm mo mr mk ml w hAx hAy hAm hWx hWy hWm rfl rfl rfl q2.1 q3.1 q1.1 hG hLx hLy h0 ha hxo hxk hxi hyo hyk hyi hmo hmr hmk hml q1.2
        by_cases s2 : one = 2
        · subst s2
          rcases Nat.eq_zero_or_pos lm.length with h0 | h0
          · exact ger_case4 a Ax _ cx lx xo xk xi Ay _ cy ly yo yk yi Am _ cm lm mo mr mk ml w hAx hAy hAm hWx hWy hWm rfl rfl rfl q2.1 q3.1 q1.1 hG hLx hLy h0 ha hxo hxk hxi hyo hyk hyi hmo hmr hmk hml q1.2
          · exact ger_case2 a Ax _ cx lx xo xk xi Ay _ cy ly yo yk yi Am _ cm lm mo mr mk ml w hAx hAy hAm hWx hWy hWm rfl rfl rfl q2.1 q3.1 q1.1 hG hLx hLy h0 ha hxo hxk hxi hyo hyk hyi hmo hmr hmk hml q1.2
        exact ger_case0 a Ax _ cx lx xo xk xi Ay _ cy ly yo yk yi Am _ cm lm mo mr mk ml one w hAx hAy hAm hWx hWy hWm rfl rfl rfl q2.1 q3.1 q1.1 hG hLx hLy (by simp [s1]) (by simp [s2]) ha hxo hxk hxi hyo hyk hyi hmo hmr hmk hml q1.2
      · exact gerTells_great a Ax _ cx xo xk xi Ay _ cy yo yk yi Am _ cm mo mr mk ml one w (by rw [hG, hLx, hLy]; rfl)
    · exact gerTells_great a Ax _ cx xo xk xi Ay _ cy yo yk yi Am _ cm mo mr mk ml one w (by rw [hG, hLx]; rfl)
  · exact gerTells_great a Ax _ cx xo xk xi Ay _ cy yo yk yi Am _ cm mo mr mk ml one w (by rw [hG]; rfl)
end Go.Proofs.Ytmjaakngiilmdaa
