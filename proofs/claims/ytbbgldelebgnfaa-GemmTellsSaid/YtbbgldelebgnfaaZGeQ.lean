/-
GemmTells, put together. Conditions: as each says.
-/
import Derived.Test.YtbbgldelebgnfaaZGePb0
import Derived.Test.YtbbgldelebgnfaaZGePb1
import Derived.Test.YtbbgldelebgnfaaZGePb2
import Derived.Test.YtbbgldelebgnfaaZGePb3
import Derived.Test.YtbbgldelebgnfaaZGePb4
import Derived.Test.YtbbgldelebgnfaaZGePs0
import Derived.Test.YtbbgldelebgnfaaZGePs1
import Derived.Test.YtbbgldelebgnfaaZGePs2
import Derived.Test.YtbbgldelebgnfaaZGePs3
import Derived.Test.YtbbgldelebgnfaaZGePs4
import Derived.Test.YtbbgldelebgnfaaZGePk0
import Derived.Test.YtbbgldelebgnfaaZGePk1
import Derived.Test.YtbbgldelebgnfaaZGePk2
import Derived.Test.YtbbgldelebgnfaaZGePk3
import Derived.Test.YtbbgldelebgnfaaZGePk4
import Derived.Test.YtbbgldelebgnfaaZGePm1
import Derived.Test.YtbbgldelebgnfaaZGePm2
set_option linter.unusedVariables false
set_option linter.unusedSimpArgs false
set_option linter.unnecessarySimpa false
namespace Go.Proofs.Ytbbgldelebgnfaa
open Go.RowKit
attribute [local go_sem ↓] Go.wp_at_zero Go.wp_at_succ


set_option maxRecDepth 100000 in
theorem gemm_case0 (a b : Nat) (Ax : Option Addr) (nx cx : Nat) (lx : List Nat) (xo xr xk xl : Int) (Ay : Option Addr) (ny cy : Nat) (ly : List Nat) (yo yr yk yl : Int) (Am : Option Addr) (nm cm : Nat) (lm : List Nat) (mo mr mk ml : Int) (one : Int) (w : World) (hAx : Row w Ax (f64s lx)) (hAy : Row w Ay (f64s ly)) (hAm : Row w Am (f64s lm)) (hWx : Wds lx) (hWy : Wds ly) (hWm : Wds lm) (hlx : lx.length = nx) (hly : ly.length = ny) (hlm : lm.length = nm) (hnx : nx ≤ 1000) (hny : ny ≤ 1000) (hnm : nm ≤ 1000) (hG : (greatB nx xr xk || greatB ny yr yk || greatB nm mr mk) = false) (f1 : (one == 1) = false) (f2 : (one == 2) = false) (ha : a < 18446744073709551616) (hb : b < 18446744073709551616) (hxo : I64 xo) (hxr : I64 xr) (hxk : I64 xk) (hxl : I64 xl) (hyo : I64 yo) (hyr : I64 yr) (hyk : I64 yk) (hyl : I64 yl) (hmo : I64 mo) (hmr : I64 mr) (hmk : I64 mk) (hml : I64 ml) (hx20 : xr ≤ 20 ∧ xk ≤ 20) (hy20 : yr ≤ 20 ∧ yk ≤ 20) (hm20 : mr ≤ 20 ∧ mk ≤ 20) :
    Calls Try.prog 3 #[.float .f64 a, mat Ax nx cx xo xr xk xl, mat Ay ny cy yo yr yk yl, .float .f64 b, mat Am nm cm mo mr mk ml, .int .i64 one] w fun e w' => e = .returned (.bool true) ∧ Below w.heap.size w w' := by
  cases h : (matB nx xo xr xk xl && matB ny yo yr yk yl && matB nm mo mr mk ml)
  · exact gemmTells_bad0 a b Ax nx cx lx xo xr xk xl Ay ny cy ly yo yr yk yl Am nm cm lm mo mr mk ml one w hAx hAy hAm hWx hWy hWm hlx hly hlm hnx hny hnm hG f1 f2 hxo hxr hxk hxl hyo hyr hyk hyl hmo hmr hmk hml h
  by_cases hs : xk = yr ∧ mr = xr ∧ mk = yk
  · have h2 := h
    simp only [Bool.and_eq_true] at h2
    obtain ⟨⟨g1, g2⟩, g3⟩ := h2
    obtain ⟨o, R, C, L, rfl, rfl, rfl, rfl, hLm, hRLm, hrm⟩ := mat_nat g3
    obtain ⟨ox, R2, K, Lx, rfl, rfl, rfl, rfl, hLx, hRLx, hrx⟩ := mat_nat g1
    obtain ⟨oy, K2, C2, Ly, rfl, rfl, rfl, rfl, hLy, hRLy, hry⟩ := mat_nat g2
    obtain ⟨s1, s2, s3⟩ := hs
    have s1 : K = K2 := by omega
    have s2 : R = R2 := by omega
    have s3 : C = C2 := by omega
    subst s1
    subst s2
    subst s3
    exact gemmTells_ok0 a b Ax nx cx lx Ay ny cy ly Am nm cm lm ox Lx oy Ly o L _ _ _ one w hAx hAy hAm hWx hWy hWm hlx hly hlm hnx hny hnm hG f1 f2 ha hb (by omega) (by omega) (by omega) hxo hxl hLx hRLx hrx hyo hyl hLy hRLy hry hmo hml hLm hRLm hrm
  · refine gemmTells_size0 a b Ax nx cx lx xo xr xk xl Ay ny cy ly yo yr yk yl Am nm cm lm mo mr mk ml one w hAx hAy hAm hWx hWy hWm hlx hly hlm hnx hny hnm hG f1 f2 hxo hxr hxk hxl hyo hyr hyk hyl hmo hmr hmk hml h _ _ _ rfl rfl rfl ?_
    by_cases e : xk = yr
    · right
      by_cases e2 : mr = xr
      · right
        have e3 : ¬ mk = yk := fun e3 => hs ⟨e, e2, e3⟩
        exact ⟨by simp [e], by simp [e2], by simp [e3]⟩
      · left
        exact ⟨by simp [e], by simp [e2]⟩
    · left
      simp [e]

set_option maxRecDepth 100000 in
theorem gemm_case1 (a b : Nat) (Ax : Option Addr) (nx cx : Nat) (lx : List Nat) (xo xr xk xl : Int) (Ay : Option Addr) (ny cy : Nat) (ly : List Nat) (yo yr yk yl : Int) (Am : Option Addr) (nm cm : Nat) (lm : List Nat) (mo mr mk ml : Int) (w : World) (hAx : Row w Ax (f64s lx)) (hAy : Row w Ay (f64s ly)) (hAm : Row w Am (f64s lm)) (hWx : Wds lx) (hWy : Wds ly) (hWm : Wds lm) (hlx : lx.length = nx) (hly : ly.length = ny) (hlm : lm.length = nm) (hnx : nx ≤ 1000) (hny : ny ≤ 1000) (hnm : nm ≤ 1000) (hG : (greatB nx xr xk || greatB ny yr yk || greatB nm mr mk) = false) (hn0 : 0 < nm) (ha : a < 18446744073709551616) (hb : b < 18446744073709551616) (hxo : I64 xo) (hxr : I64 xr) (hxk : I64 xk) (hxl : I64 xl) (hyo : I64 yo) (hyr : I64 yr) (hyk : I64 yk) (hyl : I64 yl) (hmo : I64 mo) (hmr : I64 mr) (hmk : I64 mk) (hml : I64 ml) (hx20 : xr ≤ 20 ∧ xk ≤ 20) (hy20 : yr ≤ 20 ∧ yk ≤ 20) (hm20 : mr ≤ 20 ∧ mk ≤ 20) :
    Calls Try.prog 3 #[.float .f64 a, mat Ax nx cx xo xr xk xl, mat Ay ny cy yo yr yk yl, .float .f64 b, mat Am nm cm mo mr mk ml, .int .i64 1] w fun e w' => e = .returned (.bool true) ∧ Below w.heap.size w w' := by
  cases h : (matB nm xo xr xk xl && matB ny yo yr yk yl && matB nm mo mr mk ml)
  · exact gemmTells_bad1 a b Ax nx cx lx xo xr xk xl Ay ny cy ly yo yr yk yl Am nm cm lm mo mr mk ml w hAx hAy hAm hWx hWy hWm hlx hly hlm hnx hny hnm hG hn0 hxo hxr hxk hxl hyo hyr hyk hyl hmo hmr hmk hml h
  by_cases hs : xk = yr ∧ mr = xr ∧ mk = yk
  · have h2 := h
    simp only [Bool.and_eq_true] at h2
    obtain ⟨⟨g1, g2⟩, g3⟩ := h2
    obtain ⟨o, R, C, L, rfl, rfl, rfl, rfl, hLm, hRLm, hrm⟩ := mat_nat g3
    obtain ⟨ox, R2, K, Lx, rfl, rfl, rfl, rfl, hLx, hRLx, hrx⟩ := mat_nat g1
    obtain ⟨oy, K2, C2, Ly, rfl, rfl, rfl, rfl, hLy, hRLy, hry⟩ := mat_nat g2
    obtain ⟨s1, s2, s3⟩ := hs
    have s1 : K = K2 := by omega
    have s2 : R = R2 := by omega
    have s3 : C = C2 := by omega
    subst s1
    subst s2
    subst s3
    cases hsp : spB (msA o R C) (msB o R C L) (msA ox R K) (msB ox R K Lx)
    · exact gemmTells_ok1 a b Ax nx cx lx Ay ny cy ly Am nm cm lm ox Lx oy Ly o L _ _ _ w hAx hAy hAm hWx hWy hWm hlx hly hlm hnx hny hnm hG hn0 ha hb (by omega) (by omega) (by omega) hxo hxl hLx hRLx hrx hyo hyl hLy hRLy hry hmo hml hLm hRLm hrm hsp
    · exact gemmTells_meet1 a b Ax nx cx lx Ay ny cy ly Am nm cm lm ox Lx oy Ly o L _ _ _ w hAx hAy hAm hWx hWy hWm hlx hly hlm hnx hny hnm hG hn0 ha hb (by omega) (by omega) (by omega) hxo hxl hLx hRLx hrx hyo hyl hLy hRLy hry hmo hml hLm hRLm hrm hsp
  · refine gemmTells_size1 a b Ax nx cx lx xo xr xk xl Ay ny cy ly yo yr yk yl Am nm cm lm mo mr mk ml w hAx hAy hAm hWx hWy hWm hlx hly hlm hnx hny hnm hG hn0 hxo hxr hxk hxl hyo hyr hyk hyl hmo hmr hmk hml h _ _ _ rfl rfl rfl ?_
    by_cases e : xk = yr
    · right
      by_cases e2 : mr = xr
      · right
        have e3 : ¬ mk = yk := fun e3 => hs ⟨e, e2, e3⟩
        exact ⟨by simp [e], by simp [e2], by simp [e3]⟩
      · left
        exact ⟨by simp [e], by simp [e2]⟩
    · left
      simp [e]

set_option maxRecDepth 100000 in
theorem gemm_case2 (a b : Nat) (Ax : Option Addr) (nx cx : Nat) (lx : List Nat) (xo xr xk xl : Int) (Ay : Option Addr) (ny cy : Nat) (ly : List Nat) (yo yr yk yl : Int) (Am : Option Addr) (nm cm : Nat) (lm : List Nat) (mo mr mk ml : Int) (w : World) (hAx : Row w Ax (f64s lx)) (hAy : Row w Ay (f64s ly)) (hAm : Row w Am (f64s lm)) (hWx : Wds lx) (hWy : Wds ly) (hWm : Wds lm) (hlx : lx.length = nx) (hly : ly.length = ny) (hlm : lm.length = nm) (hnx : nx ≤ 1000) (hny : ny ≤ 1000) (hnm : nm ≤ 1000) (hG : (greatB nx xr xk || greatB ny yr yk || greatB nm mr mk) = false) (hn0 : 0 < nm) (ha : a < 18446744073709551616) (hb : b < 18446744073709551616) (hxo : I64 xo) (hxr : I64 xr) (hxk : I64 xk) (hxl : I64 xl) (hyo : I64 yo) (hyr : I64 yr) (hyk : I64 yk) (hyl : I64 yl) (hmo : I64 mo) (hmr : I64 mr) (hmk : I64 mk) (hml : I64 ml) (hx20 : xr ≤ 20 ∧ xk ≤ 20) (hy20 : yr ≤ 20 ∧ yk ≤ 20) (hm20 : mr ≤ 20 ∧ mk ≤ 20) :
    Calls Try.prog 3 #[.float .f64 a, mat Ax nx cx xo xr xk xl, mat Ay ny cy yo yr yk yl, .float .f64 b, mat Am nm cm mo mr mk ml, .int .i64 2] w fun e w' => e = .returned (.bool true) ∧ Below w.heap.size w w' := by
  cases h : (matB nx xo xr xk xl && matB nm yo yr yk yl && matB nm mo mr mk ml)
  · exact gemmTells_bad2 a b Ax nx cx lx xo xr xk xl Ay ny cy ly yo yr yk yl Am nm cm lm mo mr mk ml w hAx hAy hAm hWx hWy hWm hlx hly hlm hnx hny hnm hG hn0 hxo hxr hxk hxl hyo hyr hyk hyl hmo hmr hmk hml h
  by_cases hs : xk = yr ∧ mr = xr ∧ mk = yk
  · have h2 := h
    simp only [Bool.and_eq_true] at h2
    obtain ⟨⟨g1, g2⟩, g3⟩ := h2
    obtain ⟨o, R, C, L, rfl, rfl, rfl, rfl, hLm, hRLm, hrm⟩ := mat_nat g3
    obtain ⟨ox, R2, K, Lx, rfl, rfl, rfl, rfl, hLx, hRLx, hrx⟩ := mat_nat g1
    obtain ⟨oy, K2, C2, Ly, rfl, rfl, rfl, rfl, hLy, hRLy, hry⟩ := mat_nat g2
    obtain ⟨s1, s2, s3⟩ := hs
    have s1 : K = K2 := by omega
    have s2 : R = R2 := by omega
    have s3 : C = C2 := by omega
    subst s1
    subst s2
    subst s3
    cases hsp : spB (msA o R C) (msB o R C L) (msA oy K C) (msB oy K C Ly)
    · exact gemmTells_ok2 a b Ax nx cx lx Ay ny cy ly Am nm cm lm ox Lx oy Ly o L _ _ _ w hAx hAy hAm hWx hWy hWm hlx hly hlm hnx hny hnm hG hn0 ha hb (by omega) (by omega) (by omega) hxo hxl hLx hRLx hrx hyo hyl hLy hRLy hry hmo hml hLm hRLm hrm hsp
    · exact gemmTells_meet2 a b Ax nx cx lx Ay ny cy ly Am nm cm lm ox Lx oy Ly o L _ _ _ w hAx hAy hAm hWx hWy hWm hlx hly hlm hnx hny hnm hG hn0 ha hb (by omega) (by omega) (by omega) hxo hxl hLx hRLx hrx hyo hyl hLy hRLy hry hmo hml hLm hRLm hrm hsp
  · refine gemmTells_size2 a b Ax nx cx lx xo xr xk xl Ay ny cy ly yo yr yk yl Am nm cm lm mo mr mk ml w hAx hAy hAm hWx hWy hWm hlx hly hlm hnx hny hnm hG hn0 hxo hxr hxk hxl hyo hyr hyk hyl hmo hmr hmk hml h _ _ _ rfl rfl rfl ?_
    by_cases e : xk = yr
    · right
      by_cases e2 : mr = xr
      · right
        have e3 : ¬ mk = yk := fun e3 => hs ⟨e, e2, e3⟩
        exact ⟨by simp [e], by simp [e2], by simp [e3]⟩
      · left
        exact ⟨by simp [e], by simp [e2]⟩
    · left
      simp [e]

set_option maxRecDepth 100000 in
theorem gemm_case3 (a b : Nat) (Ax : Option Addr) (nx cx : Nat) (lx : List Nat) (xo xr xk xl : Int) (Ay : Option Addr) (ny cy : Nat) (ly : List Nat) (yo yr yk yl : Int) (Am : Option Addr) (nm cm : Nat) (lm : List Nat) (mo mr mk ml : Int) (w : World) (hAx : Row w Ax (f64s lx)) (hAy : Row w Ay (f64s ly)) (hAm : Row w Am (f64s lm)) (hWx : Wds lx) (hWy : Wds ly) (hWm : Wds lm) (hlx : lx.length = nx) (hly : ly.length = ny) (hlm : lm.length = nm) (hnx : nx ≤ 1000) (hny : ny ≤ 1000) (hnm : nm ≤ 1000) (hG : (greatB nx xr xk || greatB ny yr yk || greatB nm mr mk) = false) (hn0 : nm = 0) (ha : a < 18446744073709551616) (hb : b < 18446744073709551616) (hxo : I64 xo) (hxr : I64 xr) (hxk : I64 xk) (hxl : I64 xl) (hyo : I64 yo) (hyr : I64 yr) (hyk : I64 yk) (hyl : I64 yl) (hmo : I64 mo) (hmr : I64 mr) (hmk : I64 mk) (hml : I64 ml) (hx20 : xr ≤ 20 ∧ xk ≤ 20) (hy20 : yr ≤ 20 ∧ yk ≤ 20) (hm20 : mr ≤ 20 ∧ mk ≤ 20) :
    Calls Try.prog 3 #[.float .f64 a, mat Ax nx cx xo xr xk xl, mat Ay ny cy yo yr yk yl, .float .f64 b, mat Am nm cm mo mr mk ml, .int .i64 1] w fun e w' => e = .returned (.bool true) ∧ Below w.heap.size w w' := by
  cases h : (matB nx xo xr xk xl && matB ny yo yr yk yl && matB nm mo mr mk ml)
  · exact gemmTells_bad3 a b Ax nx cx lx xo xr xk xl Ay ny cy ly yo yr yk yl Am nm cm lm mo mr mk ml w hAx hAy hAm hWx hWy hWm hlx hly hlm hnx hny hnm hG hn0 hxo hxr hxk hxl hyo hyr hyk hyl hmo hmr hmk hml h
  by_cases hs : xk = yr ∧ mr = xr ∧ mk = yk
  · have h2 := h
    simp only [Bool.and_eq_true] at h2
    obtain ⟨⟨g1, g2⟩, g3⟩ := h2
    obtain ⟨o, R, C, L, rfl, rfl, rfl, rfl, hLm, hRLm, hrm⟩ := mat_nat g3
    obtain ⟨ox, R2, K, Lx, rfl, rfl, rfl, rfl, hLx, hRLx, hrx⟩ := mat_nat g1
    obtain ⟨oy, K2, C2, Ly, rfl, rfl, rfl, rfl, hLy, hRLy, hry⟩ := mat_nat g2
    obtain ⟨s1, s2, s3⟩ := hs
    have s1 : K = K2 := by omega
    have s2 : R = R2 := by omega
    have s3 : C = C2 := by omega
    subst s1
    subst s2
    subst s3
    exact gemmTells_ok3 a b Ax nx cx lx Ay ny cy ly Am nm cm lm ox Lx oy Ly o L _ _ _ w hAx hAy hAm hWx hWy hWm hlx hly hlm hnx hny hnm hG hn0 ha hb (by omega) (by omega) (by omega) hxo hxl hLx hRLx hrx hyo hyl hLy hRLy hry hmo hml hLm hRLm hrm
  · refine gemmTells_size3 a b Ax nx cx lx xo xr xk xl Ay ny cy ly yo yr yk yl Am nm cm lm mo mr mk ml w hAx hAy hAm hWx hWy hWm hlx hly hlm hnx hny hnm hG hn0 hxo hxr hxk hxl hyo hyr hyk hyl hmo hmr hmk hml h _ _ _ rfl rfl rfl ?_
    by_cases e : xk = yr
    · right
      by_cases e2 : mr = xr
      · right
        have e3 : ¬ mk = yk := fun e3 => hs ⟨e, e2, e3⟩
        exact ⟨by simp [e], by simp [e2], by simp [e3]⟩
      · left
        exact ⟨by simp [e], by simp [e2]⟩
    · left
      simp [e]

set_option maxRecDepth 100000 in
theorem gemm_case4 (a b : Nat) (Ax : Option Addr) (nx cx : Nat) (lx : List Nat) (xo xr xk xl : Int) (Ay : Option Addr) (ny cy : Nat) (ly : List Nat) (yo yr yk yl : Int) (Am : Option Addr) (nm cm : Nat) (lm : List Nat) (mo mr mk ml : Int) (w : World) (hAx : Row w Ax (f64s lx)) (hAy : Row w Ay (f64s ly)) (hAm : Row w Am (f64s lm)) (hWx : Wds lx) (hWy : Wds ly) (hWm : Wds lm) (hlx : lx.length = nx) (hly : ly.length = ny) (hlm : lm.length = nm) (hnx : nx ≤ 1000) (hny : ny ≤ 1000) (hnm : nm ≤ 1000) (hG : (greatB nx xr xk || greatB ny yr yk || greatB nm mr mk) = false) (hn0 : nm = 0) (ha : a < 18446744073709551616) (hb : b < 18446744073709551616) (hxo : I64 xo) (hxr : I64 xr) (hxk : I64 xk) (hxl : I64 xl) (hyo : I64 yo) (hyr : I64 yr) (hyk : I64 yk) (hyl : I64 yl) (hmo : I64 mo) (hmr : I64 mr) (hmk : I64 mk) (hml : I64 ml) (hx20 : xr ≤ 20 ∧ xk ≤ 20) (hy20 : yr ≤ 20 ∧ yk ≤ 20) (hm20 : mr ≤ 20 ∧ mk ≤ 20) :
    Calls Try.prog 3 #[.float .f64 a, mat Ax nx cx xo xr xk xl, mat Ay ny cy yo yr yk yl, .float .f64 b, mat Am nm cm mo mr mk ml, .int .i64 2] w fun e w' => e = .returned (.bool true) ∧ Below w.heap.size w w' := by
  cases h : (matB nx xo xr xk xl && matB ny yo yr yk yl && matB nm mo mr mk ml)
  · exact gemmTells_bad4 a b Ax nx cx lx xo xr xk xl Ay ny cy ly yo yr yk yl Am nm cm lm mo mr mk ml w hAx hAy hAm hWx hWy hWm hlx hly hlm hnx hny hnm hG hn0 hxo hxr hxk hxl hyo hyr hyk hyl hmo hmr hmk hml h
  by_cases hs : xk = yr ∧ mr = xr ∧ mk = yk
  · have h2 := h
    simp only [Bool.and_eq_true] at h2
    obtain ⟨⟨g1, g2⟩, g3⟩ := h2
    obtain ⟨o, R, C, L, rfl, rfl, rfl, rfl, hLm, hRLm, hrm⟩ := mat_nat g3
    obtain ⟨ox, R2, K, Lx, rfl, rfl, rfl, rfl, hLx, hRLx, hrx⟩ := mat_nat g1
    obtain ⟨oy, K2, C2, Ly, rfl, rfl, rfl, rfl, hLy, hRLy, hry⟩ := mat_nat g2
    obtain ⟨s1, s2, s3⟩ := hs
    have s1 : K = K2 := by omega
    have s2 : R = R2 := by omega
    have s3 : C = C2 := by omega
    subst s1
    subst s2
    subst s3
    exact gemmTells_ok4 a b Ax nx cx lx Ay ny cy ly Am nm cm lm ox Lx oy Ly o L _ _ _ w hAx hAy hAm hWx hWy hWm hlx hly hlm hnx hny hnm hG hn0 ha hb (by omega) (by omega) (by omega) hxo hxl hLx hRLx hrx hyo hyl hLy hRLy hry hmo hml hLm hRLm hrm
  · refine gemmTells_size4 a b Ax nx cx lx xo xr xk xl Ay ny cy ly yo yr yk yl Am nm cm lm mo mr mk ml w hAx hAy hAm hWx hWy hWm hlx hly hlm hnx hny hnm hG hn0 hxo hxr hxk hxl hyo hyr hyk hyl hmo hmr hmk hml h _ _ _ rfl rfl rfl ?_
    by_cases e : xk = yr
    · right
      by_cases e2 : mr = xr
      · right
        have e3 : ¬ mk = yk := fun e3 => hs ⟨e, e2, e3⟩
        exact ⟨by simp [e], by simp [e2], by simp [e3]⟩
      · left
        exact ⟨by simp [e], by simp [e2]⟩
    · left
      simp [e]

set_option maxRecDepth 100000 in
set_option maxHeartbeats 4000000 in
theorem gemmTells_great (a b : Nat) (Ax : Option Addr) (nx cx : Nat) (xo xr xk xl : Int) (Ay : Option Addr) (ny cy : Nat) (yo yr yk yl : Int) (Am : Option Addr) (nm cm : Nat) (mo mr mk ml one : Int) (w : World) (h : (greatB nx xr xk || greatB ny yr yk || greatB nm mr mk) = true) :
    Calls Try.prog 3 #[.float .f64 a, mat Ax nx cx xo xr xk xl, mat Ay ny cy yo yr yk yl, .float .f64 b, mat Am nm cm mo mr mk ml, .int .i64 one] w fun e w' => e = .returned (.bool true) ∧ Below w.heap.size w w' := by
  have HGr := Lib.hid (fun W => ggreat_any Ax nx cx xo xr xk xl Ay ny cy yo yr yk yl Am nm cm mo mr mk ml W)
  rw [h] at HGr
  clear h
  unfold mat at *
  go_enter Try.func3, Try.ntmps3
  have Hx0 := Lib.hid (((Blk.new w 25 #[.slice Ax nx cx, .int .i64 xo, .int .i64 xr, .int .i64 xk, .int .i64 xl]).alloc (.cells #[.slice Ay ny cy, .int .i64 yo, .int .i64 yr, .int .i64 yk, .int .i64 yl] 25)).alloc (.cells #[.slice Am nm cm, .int .i64 mo, .int .i64 mr, .int .i64 mk, .int .i64 ml] 25))
  have Hy0 := Lib.hid ((Blk.new_ (w.alloc (.cells #[.slice Ax nx cx, .int .i64 xo, .int .i64 xr, .int .i64 xk, .int .i64 xl] 25)) 25 #[.slice Ay ny cy, .int .i64 yo, .int .i64 yr, .int .i64 yk, .int .i64 yl] (w.heap.size + 1) (by simp)).alloc (.cells #[.slice Am nm cm, .int .i64 mo, .int .i64 mr, .int .i64 mk, .int .i64 ml] 25))
  have Hm0 := Lib.hid (Blk.new_ ((w.alloc (.cells #[.slice Ax nx cx, .int .i64 xo, .int .i64 xr, .int .i64 xk, .int .i64 xl] 25)).alloc (.cells #[.slice Ay ny cy, .int .i64 yo, .int .i64 yr, .int .i64 yk, .int .i64 yl] 25)) 25 #[.slice Am nm cm, .int .i64 mo, .int .i64 mr, .int .i64 mk, .int .i64 ml] (w.heap.size + 1 + 1) (by simp))
  have HB0 := Lib.hid ((((Below.refl w.heap.size w).alloc (Nat.le_refl _) (.cells #[.slice Ax nx cx, .int .i64 xo, .int .i64 xr, .int .i64 xk, .int .i64 xl] 25)).alloc (by simp) (.cells #[.slice Ay ny cy, .int .i64 yo, .int .i64 yr, .int .i64 yk, .int .i64 yl] 25)).alloc (by simp; omega) (.cells #[.slice Am nm cm, .int .i64 mo, .int .i64 mr, .int .i64 mk, .int .i64 ml] 25))
  obtain ⟨x0, x1, x2, x3, x4⟩ := cells5 Hx0.out
  obtain ⟨y0, y1, y2, y3, y4⟩ := cells5 Hy0.out
  obtain ⟨m0, m1, m2, m3, m4⟩ := cells5 Hm0.out
  go_wp2_with fail
  refine (awake11_any _).mono ?_
  rintro e w1 ⟨rfl, hb⟩
  have Hx1 := Lib.hid (Hx0.out.nxt hb)
  have Hy1 := Lib.hid (Hy0.out.nxt hb)
  have Hm1 := Lib.hid (Hm0.out.nxt hb)
  have HB1 := Lib.hid (below_nx HB0.out hb)
  clear hb
  clear x0 x1 x2 x3 x4 y0 y1 y2 y3 y4 m0 m1 m2 m3 m4
  obtain ⟨x0, x1, x2, x3, x4⟩ := cells5 Hx1.out
  obtain ⟨y0, y1, y2, y3, y4⟩ := cells5 Hy1.out
  obtain ⟨m0, m1, m2, m3, m4⟩ := cells5 Hm1.out
  go_wp2_with fail
  refine (HGr.out _).mono ?_
  rintro e w2 ⟨rfl, hb⟩
  have Hx2 := Lib.hid (Hx1.out.nxt hb)
  have Hy2 := Lib.hid (Hy1.out.nxt hb)
  have Hm2 := Lib.hid (Hm1.out.nxt hb)
  have HB2 := Lib.hid (below_nx HB1.out hb)
  clear hb
  clear x0 x1 x2 x3 x4 y0 y1 y2 y3 y4 m0 m1 m2 m3 m4
  obtain ⟨x0, x1, x2, x3, x4⟩ := cells5 Hx2.out
  obtain ⟨y0, y1, y2, y3, y4⟩ := cells5 Hy2.out
  obtain ⟨m0, m1, m2, m3, m4⟩ := cells5 Hm2.out
  go_wp2_with fail
  refine (awake11_any _).mono ?_
  rintro e w5 ⟨rfl, hb⟩
  have Hx3 := Lib.hid (Hx2.out.nxt hb)
  have Hy3 := Lib.hid (Hy2.out.nxt hb)
  have Hm3 := Lib.hid (Hm2.out.nxt hb)
  have HB3 := Lib.hid (below_nx HB2.out hb)
  clear hb
  clear x0 x1 x2 x3 x4 y0 y1 y2 y3 y4 m0 m1 m2 m3 m4
  obtain ⟨x0, x1, x2, x3, x4⟩ := cells5 Hx3.out
  obtain ⟨y0, y1, y2, y3, y4⟩ := cells5 Hy3.out
  obtain ⟨m0, m1, m2, m3, m4⟩ := cells5 Hm3.out
  go_wp2_with fail
  go_ret
  exact ⟨rfl, HB3.out⟩

theorem gemmTells_walk (a : Nat) (Ax : Option Addr) (cx : Nat) (lx : List Nat) (xo xr xk xl : Int) (Ay : Option Addr) (cy : Nat) (ly : List Nat) (yo yr yk yl : Int) (b : Nat) (Am : Option Addr) (cm : Nat) (lm : List Nat) (mo mr mk ml one : Int) (w : World) (ha : a < 18446744073709551616) (hb : b < 18446744073709551616) (hAx : Row w Ax (f64s lx)) (hWx : Wds lx) (hxo : I64 xo) (hxr : I64 xr) (hxk : I64 xk) (hxl : I64 xl)
    (hAy : Row w Ay (f64s ly)) (hWy : Wds ly) (hyo : I64 yo) (hyr : I64 yr) (hyk : I64 yk) (hyl : I64 yl) (hAm : Row w Am (f64s lm)) (hWm : Wds lm) (hmo : I64 mo) (hmr : I64 mr) (hmk : I64 mk) (hml : I64 ml) :
    Calls Try.prog 3 #[.float .f64 a, mat Ax lx.length cx xo xr xk xl, mat Ay ly.length cy yo yr yk yl, .float .f64 b, mat Am lm.length cm mo mr mk ml, .int .i64 one] w fun e w' => e = .returned (.bool true) ∧ Below w.heap.size w w' := by
  cases hG : (greatB lx.length xr xk || greatB ly.length yr yk || greatB lm.length mr mk)
  · have hG2 := hG
    simp only [Bool.or_eq_false_iff] at hG2
    have q1 : lx.length ≤ 1000 ∧ xr ≤ 20 ∧ xk ≤ 20 := by have h := hG2.1.1; unfold greatB at h; simp at h; omega
    have q2 : ly.length ≤ 1000 ∧ yr ≤ 20 ∧ yk ≤ 20 := by have h := hG2.1.2; unfold greatB at h; simp at h; omega
    have q3 : lm.length ≤ 1000 ∧ mr ≤ 20 ∧ mk ≤ 20 := by have h := hG2.2; unfold greatB at h; simp at h; omega
    by_cases s1 : one = 1
    · subst s1
      rcases Nat.eq_zero_or_pos lm.length with h0 | h0
      · exact gemm_case3 a b Ax _ cx lx xo xr xk xl Ay _ cy ly yo yr yk yl Am _ cm lm mo mr mk ml w hAx hAy hAm hWx hWy hWm rfl rfl rfl q1.1 q2.1 q3.1 hG h0 ha hb hxo hxr hxk hxl hyo hyr hyk hyl hmo hmr hmk hml q1.2 q2.2 q3.2
      · exact gemm_case1 a b Ax _ cx lx xo xr xk xl Ay _ cy ly yo yr yk yl Am _ cm lm mo mr mk ml w hAx hAy hAm hWx hWy hWm rfl rfl rfl q1.1 q2.1 q3.1 hG h0 ha hb hxo hxr hxk hxl hyo hyr hyk hyl hmo hmr hmk hml q1.2 q2.2 q3.2
    by_cases s2 : one = 2
    · subst s2
      rcases Nat.eq_zero_or_pos lm.length with h0 | h0
      · exact gemm_case4 a b Ax _ cx lx xo xr xk xl Ay _ cy ly yo yr yk yl Am _ cm lm mo mr mk ml w hAx hAy hAm hWx hWy hWm rfl rfl rfl q1.1 q2.1 q3.1 hG h0 ha hb hxo hxr hxk hxl hyo hyr hyk hyl hmo hmr hmk hml q1.2 q2.2 q3.2
      · exact gemm_case2 a b Ax _ cx lx xo xr xk xl Ay _ cy ly yo yr yk yl Am _ cm lm mo mr mk ml w hAx hAy hAm hWx hWy hWm rfl rfl rfl q1.1 q2.1 q3.1 hG h0 ha hb hxo hxr hxk hxl hyo hyr hyk hyl hmo hmr hmk hml q1.2 q2.2 q3.2
    exact gemm_case0 a b Ax _ cx lx xo xr xk xl Ay _ cy ly yo yr yk yl Am _ cm lm mo mr mk ml one w hAx hAy hAm hWx hWy hWm rfl rfl rfl q1.1 q2.1 q3.1 hG (by simp [s1]) (by simp [s2]) ha hb hxo hxr hxk hxl hyo hyr hyk hyl hmo hmr hmk hml q1.2 q2.2 q3.2
  · exact gemmTells_great a b Ax _ cx xo xr xk xl Ay _ cy yo yr yk yl Am _ cm mo mr mk ml one w hG
end Go.Proofs.Ytbbgldelebgnfaa
