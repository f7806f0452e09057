/-
BlockTells, put together. Conditions: as each says.
-/
import Derived.Test.YtbeefnekblepfaaZBkPe0
import Derived.Test.YtbeefnekblepfaaZBkPe1
import Derived.Test.YtbeefnekblepfaaZBkPe2
import Derived.Test.YtbeefnekblepfaaZBkPk0
import Derived.Test.YtbeefnekblepfaaZBkPk1
import Derived.Test.YtbeefnekblepfaaZBkPk2
import Derived.Test.YtbeefnekblepfaaZBkPk3
import Derived.Test.YtbeefnekblepfaaZBkO
set_option linter.unusedVariables false
set_option linter.unusedSimpArgs false
set_option linter.unnecessarySimpa false
namespace Go.Proofs.Ytbeefnekblepfaa
open Go.RowKit
attribute [local go_sem ↓] Go.wp_at_zero Go.wp_at_succ


set_option maxRecDepth 100000 in
theorem block_case0 (s1 s2 s3 : Int) (a b : Nat) (Ax : Option Addr) (nx cx : Nat) (lx : List Nat) (xo xr xk xl : Int) (Ay : Option Addr) (ny cy : Nat) (ly : List Nat) (yo yr yk yl : Int) (Am : Option Addr) (nm cm : Nat) (lm : List Nat) (mo mr mk ml : Int) (one : Int) (w : World) (hAx : Row w Ax (f64s lx)) (hAy : Row w Ay (f64s ly)) (hAm : Row w Am (f64s lm)) (hWx : Wds lx) (hWy : Wds ly) (hWm : Wds lm) (hlx : lx.length = nx) (hly : ly.length = ny) (hlm : lm.length = nm) (hnx : nx ≤ 1000) (hny : ny ≤ 1000) (hnm : nm ≤ 1000) (hG : (greatB nx xr xk || greatB ny yr yk || greatB nm mr mk) = false) (f1 : (one == 1) = false) (f2 : (one == 2) = false) (hsI : I64 s1 ∧ I64 s2 ∧ I64 s3) (ha : a < 18446744073709551616) (hb : b < 18446744073709551616) (hxo : I64 xo) (hxr : I64 xr) (hxk : I64 xk) (hxl : I64 xl) (hyo : I64 yo) (hyr : I64 yr) (hyk : I64 yk) (hyl : I64 yl) (hmo : I64 mo) (hmr : I64 mr) (hmk : I64 mk) (hml : I64 ml) (hx20 : xr ≤ 20 ∧ xk ≤ 20) (hy20 : yr ≤ 20 ∧ yk ≤ 20) (hm20 : mr ≤ 20 ∧ mk ≤ 20) :
    Calls Try.prog 3 #[.agg #[.int .i64 s1, .int .i64 s2, .int .i64 s3], .float .f64 a, mat Ax nx cx xo xr xk xl, mat Ay ny cy yo yr yk yl, .float .f64 b, mat Am nm cm mo mr mk ml, .int .i64 one] w fun e w' => e = .returned (.bool true) ∧ Below w.heap.size w w' := by
  cases h : (matB nx xo xr xk xl && matB ny yo yr yk yl && matB nm mo mr mk ml)
  · exact blockTells_err0 s1 s2 s3 a b Ax nx cx lx xo xr xk xl Ay ny cy ly yo yr yk yl Am nm cm lm mo mr mk ml one 1 1 _ w hAx hAy hAm hWx hWy hWm hlx hly hlm hnx hny hnm hG (.inl ⟨f1, f2⟩) rfl (by omega) (fun _ => rfl) (fun _ => rfl) (bkpr0 s1 s2 s3 a b nx lx xo xr xk xl ny ly yo yr yk yl nm lm mo mr mk ml _ (by omega) hlx hly hlm hnx hny hnm hxo hxr hxk hxl hyo hyr hyk hyl hmo hmr hmk hml (by rw [Bool.and_assoc, Bool.and_assoc, ← Bool.and_assoc (matB _ _ _ _ _), h, Bool.and_false, if_pos rfl])) (bcheck_raw Ax nx cx xo xr xk xl Ay ny cy yo yr yk yl Am nm cm mo mr mk ml one _ hnx hny hnm hxo hxr hxk hxl hyo hyr hyk hyl hmo hmr hmk hml (.inl h) (by rw [if_pos h]))
  by_cases hs : xk = yr ∧ mr = xr ∧ mk = yk
  · have h2 := h
    simp only [Bool.and_eq_true] at h2
    obtain ⟨⟨g1, g2⟩, g3⟩ := h2
    obtain ⟨o, R, C, L, rfl, rfl, rfl, rfl, hLm, hRLm, hrm⟩ := mat_nat g3
    obtain ⟨ox, R2, K, Lx, rfl, rfl, rfl, rfl, hLx, hRLx, hrx⟩ := mat_nat g1
    obtain ⟨oy, K2, C2, Ly, rfl, rfl, rfl, rfl, hLy, hRLy, hry⟩ := mat_nat g2
    obtain ⟨u1, u2, u3⟩ := hs
    have u1 : K = K2 := by omega
    have u2 : R = R2 := by omega
    have u3 : C = C2 := by omega
    subst u1
    subst u2
    subst u3
    clear g1 g2 g3 h
    cases hrt : sizB s1 s2 s3
    · exact blockTells_err0 s1 s2 s3 a b Ax nx cx lx ox R K Lx Ay ny cy ly oy K C Ly Am nm cm lm o R C L one 1 0 false w hAx hAy hAm hWx hWy hWm hlx hly hlm hnx hny hnm hG (.inl ⟨f1, f2⟩) hrt (by omega) (fun e => by cases e) (fun _ => rfl) (bkpr0 s1 s2 s3 a b nx lx ox R K Lx ny ly oy K C Ly nm lm o R C L _ (by omega) hlx hly hlm hnx hny hnm hxo hxr hxk hxl hyo hyr hyk hyl hmo hmr hmk hml (by rw [hrt]; rfl)) (bcheck_nat Ax nx cx ox Lx Ay ny cy oy Ly Am nm cm o L R K C one _ (by omega) (by omega) (by omega) hnx hny hnm hxo hxl hLx hRLx hrx hyo hyl hLy hRLy hry hmo hml hLm hRLm hrm (by rw [f1, f2]; rfl))
    · have hS : 1 ≤ s1 ∧ 1 ≤ s2 ∧ 1 ≤ s3 := by unfold sizB at hrt; simpa using hrt
      obtain ⟨n1, rfl⟩ : ∃ n1 : Nat, s1 = (n1 : Int) := ⟨s1.toNat, by omega⟩
      obtain ⟨n2, rfl⟩ : ∃ n2 : Nat, s2 = (n2 : Int) := ⟨s2.toNat, by omega⟩
      obtain ⟨n3, rfl⟩ : ∃ n3 : Nat, s3 = (n3 : Int) := ⟨s3.toNat, by omega⟩
      obtain ⟨i1, i2, i3⟩ := hsI
      unfold I64 at i1 i2 i3
      exact blockTells_ok0 n1 n2 n3 a b Ax nx cx lx Ay ny cy ly Am nm cm lm ox Lx oy Ly o L R K C one w hAx hAy hAm hWx hWy hWm hlx hly hlm hnx hny hnm hG f1 f2 (by omega) (by omega) (by omega) ha hb (by omega) (by omega) (by omega) hxo hxl hLx hRLx hrx hyo hyl hLy hRLy hry hmo hml hLm hRLm hrm (bcheck_nat Ax nx cx ox Lx Ay ny cy oy Ly Am nm cm o L R K C one _ (by omega) (by omega) (by omega) hnx hny hnm hxo hxl hLx hRLx hrx hyo hyl hLy hRLy hry hmo hml hLm hRLm hrm (by rw [f1, f2]; rfl))
  · have hq : ((xk != yr) || (mr != xr) || (mk != yk)) = true := by
      by_cases e : xk = yr
      · by_cases e2 : mr = xr
        · have e3 : ¬ mk = yk := fun e3 => hs ⟨e, e2, e3⟩
          simp [e3]
        · simp [e2]
      · simp [e]
    cases hrt : sizB s1 s2 s3
    · exact blockTells_err0 s1 s2 s3 a b Ax nx cx lx xo xr xk xl Ay ny cy ly yo yr yk yl Am nm cm lm mo mr mk ml one 1 3 false w hAx hAy hAm hWx hWy hWm hlx hly hlm hnx hny hnm hG (.inl ⟨f1, f2⟩) hrt (by omega) (fun e => by cases e) (fun _ => rfl) (bkpr0 s1 s2 s3 a b nx lx xo xr xk xl ny ly yo yr yk yl nm lm mo mr mk ml _ (by omega) hlx hly hlm hnx hny hnm hxo hxr hxk hxl hyo hyr hyk hyl hmo hmr hmk hml (by rw [hrt]; rfl)) (bcheck_raw Ax nx cx xo xr xk xl Ay ny cy yo yr yk yl Am nm cm mo mr mk ml one _ hnx hny hnm hxo hxr hxk hxl hyo hyr hyk hyl hmo hmr hmk hml (.inr hq) (by rw [h]; rfl))
    · exact blockTells_err0 s1 s2 s3 a b Ax nx cx lx xo xr xk xl Ay ny cy ly yo yr yk yl Am nm cm lm mo mr mk ml one 3 3 true w hAx hAy hAm hWx hWy hWm hlx hly hlm hnx hny hnm hG (.inl ⟨f1, f2⟩) hrt (by omega) (fun _ => rfl) (fun e => by cases e) (bkpr0 s1 s2 s3 a b nx lx xo xr xk xl ny ly yo yr yk yl nm lm mo mr mk ml _ (by omega) hlx hly hlm hnx hny hnm hxo hxr hxk hxl hyo hyr hyk hyl hmo hmr hmk hml (by rw [hrt, Bool.true_and, h, hq]; rfl)) (bcheck_raw Ax nx cx xo xr xk xl Ay ny cy yo yr yk yl Am nm cm mo mr mk ml one _ hnx hny hnm hxo hxr hxk hxl hyo hyr hyk hyl hmo hmr hmk hml (.inr hq) (by rw [h]; rfl))

set_option maxRecDepth 100000 in
theorem block_case1 (s1 s2 s3 : Int) (a b : Nat) (Ax : Option Addr) (nx cx : Nat) (lx : List Nat) (xo xr xk xl : Int) (Ay : Option Addr) (ny cy : Nat) (ly : List Nat) (yo yr yk yl : Int) (Am : Option Addr) (nm cm : Nat) (lm : List Nat) (mo mr mk ml : Int) (w : World) (hAx : Row w Ax (f64s lx)) (hAy : Row w Ay (f64s ly)) (hAm : Row w Am (f64s lm)) (hWx : Wds lx) (hWy : Wds ly) (hWm : Wds lm) (hlx : lx.length = nx) (hly : ly.length = ny) (hlm : lm.length = nm) (hnx : nx ≤ 1000) (hny : ny ≤ 1000) (hnm : nm ≤ 1000) (hG : (greatB nx xr xk || greatB ny yr yk || greatB nm mr mk) = false) (hn0 : 0 < nm) (hsI : I64 s1 ∧ I64 s2 ∧ I64 s3) (ha : a < 18446744073709551616) (hb : b < 18446744073709551616) (hxo : I64 xo) (hxr : I64 xr) (hxk : I64 xk) (hxl : I64 xl) (hyo : I64 yo) (hyr : I64 yr) (hyk : I64 yk) (hyl : I64 yl) (hmo : I64 mo) (hmr : I64 mr) (hmk : I64 mk) (hml : I64 ml) (hx20 : xr ≤ 20 ∧ xk ≤ 20) (hy20 : yr ≤ 20 ∧ yk ≤ 20) (hm20 : mr ≤ 20 ∧ mk ≤ 20) :
    Calls Try.prog 3 #[.agg #[.int .i64 s1, .int .i64 s2, .int .i64 s3], .float .f64 a, mat Ax nx cx xo xr xk xl, mat Ay ny cy yo yr yk yl, .float .f64 b, mat Am nm cm mo mr mk ml, .int .i64 1] w fun e w' => e = .returned (.bool true) ∧ Below w.heap.size w w' := by
  cases h : (matB nm xo xr xk xl && matB ny yo yr yk yl && matB nm mo mr mk ml)
  · exact blockTells_err1 s1 s2 s3 a b Ax nx cx lx xo xr xk xl Ay ny cy ly yo yr yk yl Am nm cm lm mo mr mk ml 1 1 _ w hAx hAy hAm hWx hWy hWm hlx hly hlm hnx hny hnm hG hn0 rfl (by omega) (fun _ => rfl) (fun _ => rfl) (bkpr1 s1 s2 s3 a b nx lx xo xr xk xl ny ly yo yr yk yl nm lm mo mr mk ml _ (by omega) hlx hly hlm hnx hny hnm hxo hxr hxk hxl hyo hyr hyk hyl hmo hmr hmk hml _ rfl (by rw [Bool.and_assoc, Bool.and_assoc, ← Bool.and_assoc (matB _ _ _ _ _), h, Bool.and_false, if_pos rfl])) (bcheck_raw Am nm cm xo xr xk xl Ay ny cy yo yr yk yl Am nm cm mo mr mk ml 1 _ hnm hny hnm hxo hxr hxk hxl hyo hyr hyk hyl hmo hmr hmk hml (.inl h) (by rw [if_pos h]))
  by_cases hs : xk = yr ∧ mr = xr ∧ mk = yk
  · have h2 := h
    simp only [Bool.and_eq_true] at h2
    obtain ⟨⟨g1, g2⟩, g3⟩ := h2
    obtain ⟨o, R, C, L, rfl, rfl, rfl, rfl, hLm, hRLm, hrm⟩ := mat_nat g3
    obtain ⟨ox, R2, K, Lx, rfl, rfl, rfl, rfl, hLx, hRLx, hrx⟩ := mat_nat g1
    obtain ⟨oy, K2, C2, Ly, rfl, rfl, rfl, rfl, hLy, hRLy, hry⟩ := mat_nat g2
    obtain ⟨u1, u2, u3⟩ := hs
    have u1 : K = K2 := by omega
    have u2 : R = R2 := by omega
    have u3 : C = C2 := by omega
    subst u1
    subst u2
    subst u3
    clear g1 g2 g3 h
    obtain ⟨sp, hsp⟩ : ∃ v, spB (msA o R C) (msB o R C L) (msA ox R K) (msB ox R K Lx) = v := ⟨_, rfl⟩
    cases hrt : sizB s1 s2 s3
    · exact blockTells_err1 s1 s2 s3 a b Ax nx cx lx ox R K Lx Ay ny cy ly oy K C Ly Am nm cm lm o R C L 1 (if sp = true then 2 else 0) false w hAx hAy hAm hWx hWy hWm hlx hly hlm hnx hny hnm hG hn0 hrt (by omega) (fun e => by cases e) (fun _ => rfl) (bkpr1 s1 s2 s3 a b nx lx ox R K Lx ny ly oy K C Ly nm lm o R C L _ (by omega) hlx hly hlm hnx hny hnm hxo hxr hxk hxl hyo hyr hyk hyl hmo hmr hmk hml _ (met_mm hLm hRLm hrm hLx hRLx hrx) (by rw [hrt]; rfl)) (bcheck_nat Am nm cm ox Lx Ay ny cy oy Ly Am nm cm o L R K C 1 _ (by omega) (by omega) (by omega) hnm hny hnm hxo hxl hLx hRLx hrx hyo hyl hLy hRLy hry hmo hml hLm hRLm hrm (by rw [hsp]; cases sp <;> rfl))
    · cases sp
      · have hS : 1 ≤ s1 ∧ 1 ≤ s2 ∧ 1 ≤ s3 := by unfold sizB at hrt; simpa using hrt
        obtain ⟨n1, rfl⟩ : ∃ n1 : Nat, s1 = (n1 : Int) := ⟨s1.toNat, by omega⟩
        obtain ⟨n2, rfl⟩ : ∃ n2 : Nat, s2 = (n2 : Int) := ⟨s2.toNat, by omega⟩
        obtain ⟨n3, rfl⟩ : ∃ n3 : Nat, s3 = (n3 : Int) := ⟨s3.toNat, by omega⟩
        obtain ⟨i1, i2, i3⟩ := hsI
        unfold I64 at i1 i2 i3
        exact blockTells_ok1 n1 n2 n3 a b Ax nx cx lx Ay ny cy ly Am nm cm lm ox Lx oy Ly o L R K C w hAx hAy hAm hWx hWy hWm hlx hly hlm hnx hny hnm hG hn0 (by omega) (by omega) (by omega) ha hb (by omega) (by omega) (by omega) hxo hxl hLx hRLx hrx hyo hyl hLy hRLy hry hmo hml hLm hRLm hrm hsp (bcheck_nat Am nm cm ox Lx Ay ny cy oy Ly Am nm cm o L R K C 1 _ (by omega) (by omega) (by omega) hnm hny hnm hxo hxl hLx hRLx hrx hyo hyl hLy hRLy hry hmo hml hLm hRLm hrm (by rw [hsp]; rfl))
      · exact blockTells_err1 s1 s2 s3 a b Ax nx cx lx ox R K Lx Ay ny cy ly oy K C Ly Am nm cm lm o R C L 2 2 true w hAx hAy hAm hWx hWy hWm hlx hly hlm hnx hny hnm hG hn0 hrt (by omega) (fun _ => rfl) (fun e => by cases e) (bkpr1 s1 s2 s3 a b nx lx ox R K Lx ny ly oy K C Ly nm lm o R C L _ (by omega) hlx hly hlm hnx hny hnm hxo hxr hxk hxl hyo hyr hyk hyl hmo hmr hmk hml _ (met_mm hLm hRLm hrm hLx hRLx hrx) (by rw [hrt, hsp]; rw [mat_right hLx hRLx hrx, mat_right hLy hRLy hry, mat_right hLm hRLm hrm]; simp)) (bcheck_nat Am nm cm ox Lx Ay ny cy oy Ly Am nm cm o L R K C 1 _ (by omega) (by omega) (by omega) hnm hny hnm hxo hxl hLx hRLx hrx hyo hyl hLy hRLy hry hmo hml hLm hRLm hrm (by rw [hsp]; rfl))
  · have hq : ((xk != yr) || (mr != xr) || (mk != yk)) = true := by
      by_cases e : xk = yr
      · by_cases e2 : mr = xr
        · have e3 : ¬ mk = yk := fun e3 => hs ⟨e, e2, e3⟩
          simp [e3]
        · simp [e2]
      · simp [e]
    cases hrt : sizB s1 s2 s3
    · exact blockTells_err1 s1 s2 s3 a b Ax nx cx lx xo xr xk xl Ay ny cy ly yo yr yk yl Am nm cm lm mo mr mk ml 1 3 false w hAx hAy hAm hWx hWy hWm hlx hly hlm hnx hny hnm hG hn0 hrt (by omega) (fun e => by cases e) (fun _ => rfl) (bkpr1 s1 s2 s3 a b nx lx xo xr xk xl ny ly yo yr yk yl nm lm mo mr mk ml _ (by omega) hlx hly hlm hnx hny hnm hxo hxr hxk hxl hyo hyr hyk hyl hmo hmr hmk hml _ rfl (by rw [hrt]; rfl)) (bcheck_raw Am nm cm xo xr xk xl Ay ny cy yo yr yk yl Am nm cm mo mr mk ml 1 _ hnm hny hnm hxo hxr hxk hxl hyo hyr hyk hyl hmo hmr hmk hml (.inr hq) (by rw [h]; rfl))
    · exact blockTells_err1 s1 s2 s3 a b Ax nx cx lx xo xr xk xl Ay ny cy ly yo yr yk yl Am nm cm lm mo mr mk ml 3 3 true w hAx hAy hAm hWx hWy hWm hlx hly hlm hnx hny hnm hG hn0 hrt (by omega) (fun _ => rfl) (fun e => by cases e) (bkpr1 s1 s2 s3 a b nx lx xo xr xk xl ny ly yo yr yk yl nm lm mo mr mk ml _ (by omega) hlx hly hlm hnx hny hnm hxo hxr hxk hxl hyo hyr hyk hyl hmo hmr hmk hml _ rfl (by rw [hrt, Bool.true_and, h, hq]; rfl)) (bcheck_raw Am nm cm xo xr xk xl Ay ny cy yo yr yk yl Am nm cm mo mr mk ml 1 _ hnm hny hnm hxo hxr hxk hxl hyo hyr hyk hyl hmo hmr hmk hml (.inr hq) (by rw [h]; rfl))

set_option maxRecDepth 100000 in
theorem block_case2 (s1 s2 s3 : Int) (a b : Nat) (Ax : Option Addr) (nx cx : Nat) (lx : List Nat) (xo xr xk xl : Int) (Ay : Option Addr) (ny cy : Nat) (ly : List Nat) (yo yr yk yl : Int) (Am : Option Addr) (nm cm : Nat) (lm : List Nat) (mo mr mk ml : Int) (w : World) (hAx : Row w Ax (f64s lx)) (hAy : Row w Ay (f64s ly)) (hAm : Row w Am (f64s lm)) (hWx : Wds lx) (hWy : Wds ly) (hWm : Wds lm) (hlx : lx.length = nx) (hly : ly.length = ny) (hlm : lm.length = nm) (hnx : nx ≤ 1000) (hny : ny ≤ 1000) (hnm : nm ≤ 1000) (hG : (greatB nx xr xk || greatB ny yr yk || greatB nm mr mk) = false) (hn0 : 0 < nm) (hsI : I64 s1 ∧ I64 s2 ∧ I64 s3) (ha : a < 18446744073709551616) (hb : b < 18446744073709551616) (hxo : I64 xo) (hxr : I64 xr) (hxk : I64 xk) (hxl : I64 xl) (hyo : I64 yo) (hyr : I64 yr) (hyk : I64 yk) (hyl : I64 yl) (hmo : I64 mo) (hmr : I64 mr) (hmk : I64 mk) (hml : I64 ml) (hx20 : xr ≤ 20 ∧ xk ≤ 20) (hy20 : yr ≤ 20 ∧ yk ≤ 20) (hm20 : mr ≤ 20 ∧ mk ≤ 20) :
    Calls Try.prog 3 #[.agg #[.int .i64 s1, .int .i64 s2, .int .i64 s3], .float .f64 a, mat Ax nx cx xo xr xk xl, mat Ay ny cy yo yr yk yl, .float .f64 b, mat Am nm cm mo mr mk ml, .int .i64 2] w fun e w' => e = .returned (.bool true) ∧ Below w.heap.size w w' := by
  cases h : (matB nx xo xr xk xl && matB nm yo yr yk yl && matB nm mo mr mk ml)
  · exact blockTells_err2 s1 s2 s3 a b Ax nx cx lx xo xr xk xl Ay ny cy ly yo yr yk yl Am nm cm lm mo mr mk ml 1 1 _ w hAx hAy hAm hWx hWy hWm hlx hly hlm hnx hny hnm hG hn0 rfl (by omega) (fun _ => rfl) (fun _ => rfl) (bkpr2 s1 s2 s3 a b nx lx xo xr xk xl ny ly yo yr yk yl nm lm mo mr mk ml _ (by omega) hlx hly hlm hnx hny hnm hxo hxr hxk hxl hyo hyr hyk hyl hmo hmr hmk hml _ rfl (by rw [Bool.and_assoc, Bool.and_assoc, ← Bool.and_assoc (matB _ _ _ _ _), h, Bool.and_false, if_pos rfl])) (bcheck_raw Ax nx cx xo xr xk xl Am nm cm yo yr yk yl Am nm cm mo mr mk ml 2 _ hnx hnm hnm hxo hxr hxk hxl hyo hyr hyk hyl hmo hmr hmk hml (.inl h) (by rw [if_pos h]))
  by_cases hs : xk = yr ∧ mr = xr ∧ mk = yk
  · have h2 := h
    simp only [Bool.and_eq_true] at h2
    obtain ⟨⟨g1, g2⟩, g3⟩ := h2
    obtain ⟨o, R, C, L, rfl, rfl, rfl, rfl, hLm, hRLm, hrm⟩ := mat_nat g3
    obtain ⟨ox, R2, K, Lx, rfl, rfl, rfl, rfl, hLx, hRLx, hrx⟩ := mat_nat g1
    obtain ⟨oy, K2, C2, Ly, rfl, rfl, rfl, rfl, hLy, hRLy, hry⟩ := mat_nat g2
    obtain ⟨u1, u2, u3⟩ := hs
    have u1 : K = K2 := by omega
    have u2 : R = R2 := by omega
    have u3 : C = C2 := by omega
    subst u1
    subst u2
    subst u3
    clear g1 g2 g3 h
    obtain ⟨sp, hsp⟩ : ∃ v, spB (msA o R C) (msB o R C L) (msA oy K C) (msB oy K C Ly) = v := ⟨_, rfl⟩
    cases hrt : sizB s1 s2 s3
    · exact blockTells_err2 s1 s2 s3 a b Ax nx cx lx ox R K Lx Ay ny cy ly oy K C Ly Am nm cm lm o R C L 1 (if sp = true then 2 else 0) false w hAx hAy hAm hWx hWy hWm hlx hly hlm hnx hny hnm hG hn0 hrt (by omega) (fun e => by cases e) (fun _ => rfl) (bkpr2 s1 s2 s3 a b nx lx ox R K Lx ny ly oy K C Ly nm lm o R C L _ (by omega) hlx hly hlm hnx hny hnm hxo hxr hxk hxl hyo hyr hyk hyl hmo hmr hmk hml _ (met_mm hLm hRLm hrm hLy hRLy hry) (by rw [hrt]; rfl)) (bcheck_nat Ax nx cx ox Lx Am nm cm oy Ly Am nm cm o L R K C 2 _ (by omega) (by omega) (by omega) hnx hnm hnm hxo hxl hLx hRLx hrx hyo hyl hLy hRLy hry hmo hml hLm hRLm hrm (by rw [hsp]; cases sp <;> rfl))
    · cases sp
      · have hS : 1 ≤ s1 ∧ 1 ≤ s2 ∧ 1 ≤ s3 := by unfold sizB at hrt; simpa using hrt
        obtain ⟨n1, rfl⟩ : ∃ n1 : Nat, s1 = (n1 : Int) := ⟨s1.toNat, by omega⟩
        obtain ⟨n2, rfl⟩ : ∃ n2 : Nat, s2 = (n2 : Int) := ⟨s2.toNat, by omega⟩
        obtain ⟨n3, rfl⟩ : ∃ n3 : Nat, s3 = (n3 : Int) := ⟨s3.toNat, by omega⟩
        obtain ⟨i1, i2, i3⟩ := hsI
        unfold I64 at i1 i2 i3
        exact blockTells_ok2 n1 n2 n3 a b Ax nx cx lx Ay ny cy ly Am nm cm lm ox Lx oy Ly o L R K C w hAx hAy hAm hWx hWy hWm hlx hly hlm hnx hny hnm hG hn0 (by omega) (by omega) (by omega) ha hb (by omega) (by omega) (by omega) hxo hxl hLx hRLx hrx hyo hyl hLy hRLy hry hmo hml hLm hRLm hrm hsp (bcheck_nat Ax nx cx ox Lx Am nm cm oy Ly Am nm cm o L R K C 2 _ (by omega) (by omega) (by omega) hnx hnm hnm hxo hxl hLx hRLx hrx hyo hyl hLy hRLy hry hmo hml hLm hRLm hrm (by rw [hsp]; rfl))
      · exact blockTells_err2 s1 s2 s3 a b Ax nx cx lx ox R K Lx Ay ny cy ly oy K C Ly Am nm cm lm o R C L 2 2 true w hAx hAy hAm hWx hWy hWm hlx hly hlm hnx hny hnm hG hn0 hrt (by omega) (fun _ => rfl) (fun e => by cases e) (bkpr2 s1 s2 s3 a b nx lx ox R K Lx ny ly oy K C Ly nm lm o R C L _ (by omega) hlx hly hlm hnx hny hnm hxo hxr hxk hxl hyo hyr hyk hyl hmo hmr hmk hml _ (met_mm hLm hRLm hrm hLy hRLy hry) (by rw [hrt, hsp]; rw [mat_right hLx hRLx hrx, mat_right hLy hRLy hry, mat_right hLm hRLm hrm]; simp)) (bcheck_nat Ax nx cx ox Lx Am nm cm oy Ly Am nm cm o L R K C 2 _ (by omega) (by omega) (by omega) hnx hnm hnm hxo hxl hLx hRLx hrx hyo hyl hLy hRLy hry hmo hml hLm hRLm hrm (by rw [hsp]; rfl))
  · have hq : ((xk != yr) || (mr != xr) || (mk != yk)) = true := by
      by_cases e : xk = yr
      · by_cases e2 : mr = xr
        · have e3 : ¬ mk = yk := fun e3 => hs ⟨e, e2, e3⟩
          simp [e3]
        · simp [e2]
      · simp [e]
    cases hrt : sizB s1 s2 s3
    · exact blockTells_err2 s1 s2 s3 a b Ax nx cx lx xo xr xk xl Ay ny cy ly yo yr yk yl Am nm cm lm mo mr mk ml 1 3 false w hAx hAy hAm hWx hWy hWm hlx hly hlm hnx hny hnm hG hn0 hrt (by omega) (fun e => by cases e) (fun _ => rfl) (bkpr2 s1 s2 s3 a b nx lx xo xr xk xl ny ly yo yr yk yl nm lm mo mr mk ml _ (by omega) hlx hly hlm hnx hny hnm hxo hxr hxk hxl hyo hyr hyk hyl hmo hmr hmk hml _ rfl (by rw [hrt]; rfl)) (bcheck_raw Ax nx cx xo xr xk xl Am nm cm yo yr yk yl Am nm cm mo mr mk ml 2 _ hnx hnm hnm hxo hxr hxk hxl hyo hyr hyk hyl hmo hmr hmk hml (.inr hq) (by rw [h]; rfl))
    · exact blockTells_err2 s1 s2 s3 a b Ax nx cx lx xo xr xk xl Ay ny cy ly yo yr yk yl Am nm cm lm mo mr mk ml 3 3 true w hAx hAy hAm hWx hWy hWm hlx hly hlm hnx hny hnm hG hn0 hrt (by omega) (fun _ => rfl) (fun e => by cases e) (bkpr2 s1 s2 s3 a b nx lx xo xr xk xl ny ly yo yr yk yl nm lm mo mr mk ml _ (by omega) hlx hly hlm hnx hny hnm hxo hxr hxk hxl hyo hyr hyk hyl hmo hmr hmk hml _ rfl (by rw [hrt, Bool.true_and, h, hq]; rfl)) (bcheck_raw Ax nx cx xo xr xk xl Am nm cm yo yr yk yl Am nm cm mo mr mk ml 2 _ hnx hnm hnm hxo hxr hxk hxl hyo hyr hyk hyl hmo hmr hmk hml (.inr hq) (by rw [h]; rfl))

set_option maxRecDepth 100000 in
theorem block_case3 (s1 s2 s3 : Int) (a b : Nat) (Ax : Option Addr) (nx cx : Nat) (lx : List Nat) (xo xr xk xl : Int) (Ay : Option Addr) (ny cy : Nat) (ly : List Nat) (yo yr yk yl : Int) (Am : Option Addr) (nm cm : Nat) (lm : List Nat) (mo mr mk ml : Int) (w : World) (hAx : Row w Ax (f64s lx)) (hAy : Row w Ay (f64s ly)) (hAm : Row w Am (f64s lm)) (hWx : Wds lx) (hWy : Wds ly) (hWm : Wds lm) (hlx : lx.length = nx) (hly : ly.length = ny) (hlm : lm.length = nm) (hnx : nx ≤ 1000) (hny : ny ≤ 1000) (hnm : nm ≤ 1000) (hG : (greatB nx xr xk || greatB ny yr yk || greatB nm mr mk) = false) (hn0 : nm = 0) (hsI : I64 s1 ∧ I64 s2 ∧ I64 s3) (ha : a < 18446744073709551616) (hb : b < 18446744073709551616) (hxo : I64 xo) (hxr : I64 xr) (hxk : I64 xk) (hxl : I64 xl) (hyo : I64 yo) (hyr : I64 yr) (hyk : I64 yk) (hyl : I64 yl) (hmo : I64 mo) (hmr : I64 mr) (hmk : I64 mk) (hml : I64 ml) (hx20 : xr ≤ 20 ∧ xk ≤ 20) (hy20 : yr ≤ 20 ∧ yk ≤ 20) (hm20 : mr ≤ 20 ∧ mk ≤ 20) :
    Calls Try.prog 3 #[.agg #[.int .i64 s1, .int .i64 s2, .int .i64 s3], .float .f64 a, mat Ax nx cx xo xr xk xl, mat Ay ny cy yo yr yk yl, .float .f64 b, mat Am nm cm mo mr mk ml, .int .i64 1] w fun e w' => e = .returned (.bool true) ∧ Below w.heap.size w w' := by
  cases h : (matB nx xo xr xk xl && matB ny yo yr yk yl && matB nm mo mr mk ml)
  · exact blockTells_err0 s1 s2 s3 a b Ax nx cx lx xo xr xk xl Ay ny cy ly yo yr yk yl Am nm cm lm mo mr mk ml 1 1 1 _ w hAx hAy hAm hWx hWy hWm hlx hly hlm hnx hny hnm hG (.inr (.inl ⟨rfl, hn0⟩)) rfl (by omega) (fun _ => rfl) (fun _ => rfl) (bkpr0 s1 s2 s3 a b nx lx xo xr xk xl ny ly yo yr yk yl nm lm mo mr mk ml _ (by omega) hlx hly hlm hnx hny hnm hxo hxr hxk hxl hyo hyr hyk hyl hmo hmr hmk hml (by rw [Bool.and_assoc, Bool.and_assoc, ← Bool.and_assoc (matB _ _ _ _ _), h, Bool.and_false, if_pos rfl])) (bcheck_raw Ax nx cx xo xr xk xl Ay ny cy yo yr yk yl Am nm cm mo mr mk ml 1 _ hnx hny hnm hxo hxr hxk hxl hyo hyr hyk hyl hmo hmr hmk hml (.inl h) (by rw [if_pos h]))
  by_cases hs : xk = yr ∧ mr = xr ∧ mk = yk
  · have h2 := h
    simp only [Bool.and_eq_true] at h2
    obtain ⟨⟨g1, g2⟩, g3⟩ := h2
    obtain ⟨o, R, C, L, rfl, rfl, rfl, rfl, hLm, hRLm, hrm⟩ := mat_nat g3
    obtain ⟨ox, R2, K, Lx, rfl, rfl, rfl, rfl, hLx, hRLx, hrx⟩ := mat_nat g1
    obtain ⟨oy, K2, C2, Ly, rfl, rfl, rfl, rfl, hLy, hRLy, hry⟩ := mat_nat g2
    obtain ⟨u1, u2, u3⟩ := hs
    have u1 : K = K2 := by omega
    have u2 : R = R2 := by omega
    have u3 : C = C2 := by omega
    subst u1
    subst u2
    subst u3
    clear g1 g2 g3 h
    cases hrt : sizB s1 s2 s3
    · exact blockTells_err0 s1 s2 s3 a b Ax nx cx lx ox R K Lx Ay ny cy ly oy K C Ly Am nm cm lm o R C L 1 1 0 false w hAx hAy hAm hWx hWy hWm hlx hly hlm hnx hny hnm hG (.inr (.inl ⟨rfl, hn0⟩)) hrt (by omega) (fun e => by cases e) (fun _ => rfl) (bkpr0 s1 s2 s3 a b nx lx ox R K Lx ny ly oy K C Ly nm lm o R C L _ (by omega) hlx hly hlm hnx hny hnm hxo hxr hxk hxl hyo hyr hyk hyl hmo hmr hmk hml (by rw [hrt]; rfl)) (bcheck_nat Ax nx cx ox Lx Ay ny cy oy Ly Am nm cm o L R K C 1 _ (by omega) (by omega) (by omega) hnx hny hnm hxo hxl hLx hRLx hrx hyo hyl hLy hRLy hry hmo hml hLm hRLm hrm (by rw [sp_none (show R = 0 ∨ C = 0 by omega)]; rfl))
    · have hS : 1 ≤ s1 ∧ 1 ≤ s2 ∧ 1 ≤ s3 := by unfold sizB at hrt; simpa using hrt
      obtain ⟨n1, rfl⟩ : ∃ n1 : Nat, s1 = (n1 : Int) := ⟨s1.toNat, by omega⟩
      obtain ⟨n2, rfl⟩ : ∃ n2 : Nat, s2 = (n2 : Int) := ⟨s2.toNat, by omega⟩
      obtain ⟨n3, rfl⟩ : ∃ n3 : Nat, s3 = (n3 : Int) := ⟨s3.toNat, by omega⟩
      obtain ⟨i1, i2, i3⟩ := hsI
      unfold I64 at i1 i2 i3
      exact blockTells_ok3 n1 n2 n3 a b Ax nx cx lx Ay ny cy ly Am nm cm lm ox Lx oy Ly o L R K C 1 w hAx hAy hAm hWx hWy hWm hlx hly hlm hnx hny hnm hG (.inl rfl) hn0 (by omega) (by omega) (by omega) ha hb (by omega) (by omega) (by omega) hxo hxl hLx hRLx hrx hyo hyl hLy hRLy hry hmo hml hLm hRLm hrm (bcheck_nat Ax nx cx ox Lx Ay ny cy oy Ly Am nm cm o L R K C 1 _ (by omega) (by omega) (by omega) hnx hny hnm hxo hxl hLx hRLx hrx hyo hyl hLy hRLy hry hmo hml hLm hRLm hrm (by rw [sp_none (show R = 0 ∨ C = 0 by omega)]; rfl))
  · have hq : ((xk != yr) || (mr != xr) || (mk != yk)) = true := by
      by_cases e : xk = yr
      · by_cases e2 : mr = xr
        · have e3 : ¬ mk = yk := fun e3 => hs ⟨e, e2, e3⟩
          simp [e3]
        · simp [e2]
      · simp [e]
    cases hrt : sizB s1 s2 s3
    · exact blockTells_err0 s1 s2 s3 a b Ax nx cx lx xo xr xk xl Ay ny cy ly yo yr yk yl Am nm cm lm mo mr mk ml 1 1 3 false w hAx hAy hAm hWx hWy hWm hlx hly hlm hnx hny hnm hG (.inr (.inl ⟨rfl, hn0⟩)) hrt (by omega) (fun e => by cases e) (fun _ => rfl) (bkpr0 s1 s2 s3 a b nx lx xo xr xk xl ny ly yo yr yk yl nm lm mo mr mk ml _ (by omega) hlx hly hlm hnx hny hnm hxo hxr hxk hxl hyo hyr hyk hyl hmo hmr hmk hml (by rw [hrt]; rfl)) (bcheck_raw Ax nx cx xo xr xk xl Ay ny cy yo yr yk yl Am nm cm mo mr mk ml 1 _ hnx hny hnm hxo hxr hxk hxl hyo hyr hyk hyl hmo hmr hmk hml (.inr hq) (by rw [h]; rfl))
    · exact blockTells_err0 s1 s2 s3 a b Ax nx cx lx xo xr xk xl Ay ny cy ly yo yr yk yl Am nm cm lm mo mr mk ml 1 3 3 true w hAx hAy hAm hWx hWy hWm hlx hly hlm hnx hny hnm hG (.inr (.inl ⟨rfl, hn0⟩)) hrt (by omega) (fun _ => rfl) (fun e => by cases e) (bkpr0 s1 s2 s3 a b nx lx xo xr xk xl ny ly yo yr yk yl nm lm mo mr mk ml _ (by omega) hlx hly hlm hnx hny hnm hxo hxr hxk hxl hyo hyr hyk hyl hmo hmr hmk hml (by rw [hrt, Bool.true_and, h, hq]; rfl)) (bcheck_raw Ax nx cx xo xr xk xl Ay ny cy yo yr yk yl Am nm cm mo mr mk ml 1 _ hnx hny hnm hxo hxr hxk hxl hyo hyr hyk hyl hmo hmr hmk hml (.inr hq) (by rw [h]; rfl))

set_option maxRecDepth 100000 in
theorem block_case4 (s1 s2 s3 : Int) (a b : Nat) (Ax : Option Addr) (nx cx : Nat) (lx : List Nat) (xo xr xk xl : Int) (Ay : Option Addr) (ny cy : Nat) (ly : List Nat) (yo yr yk yl : Int) (Am : Option Addr) (nm cm : Nat) (lm : List Nat) (mo mr mk ml : Int) (w : World) (hAx : Row w Ax (f64s lx)) (hAy : Row w Ay (f64s ly)) (hAm : Row w Am (f64s lm)) (hWx : Wds lx) (hWy : Wds ly) (hWm : Wds lm) (hlx : lx.length = nx) (hly : ly.length = ny) (hlm : lm.length = nm) (hnx : nx ≤ 1000) (hny : ny ≤ 1000) (hnm : nm ≤ 1000) (hG : (greatB nx xr xk || greatB ny yr yk || greatB nm mr mk) = false) (hn0 : nm = 0) (hsI : I64 s1 ∧ I64 s2 ∧ I64 s3) (ha : a < 18446744073709551616) (hb : b < 18446744073709551616) (hxo : I64 xo) (hxr : I64 xr) (hxk : I64 xk) (hxl : I64 xl) (hyo : I64 yo) (hyr : I64 yr) (hyk : I64 yk) (hyl : I64 yl) (hmo : I64 mo) (hmr : I64 mr) (hmk : I64 mk) (hml : I64 ml) (hx20 : xr ≤ 20 ∧ xk ≤ 20) (hy20 : yr ≤ 20 ∧ yk ≤ 20) (hm20 : mr ≤ 20 ∧ mk ≤ 20) :
    Calls Try.prog 3 #[.agg #[.int .i64 s1, .int .i64 s2, .int .i64 s3], .float .f64 a, mat Ax nx cx xo xr xk xl, mat Ay ny cy yo yr yk yl, .float .f64 b, mat Am nm cm mo mr mk ml, .int .i64 2] w fun e w' => e = .returned (.bool true) ∧ Below w.heap.size w w' := by
  cases h : (matB nx xo xr xk xl && matB ny yo yr yk yl && matB nm mo mr mk ml)
  · exact blockTells_err0 s1 s2 s3 a b Ax nx cx lx xo xr xk xl Ay ny cy ly yo yr yk yl Am nm cm lm mo mr mk ml 2 1 1 _ w hAx hAy hAm hWx hWy hWm hlx hly hlm hnx hny hnm hG (.inr (.inr ⟨rfl, hn0⟩)) rfl (by omega) (fun _ => rfl) (fun _ => rfl) (bkpr0 s1 s2 s3 a b nx lx xo xr xk xl ny ly yo yr yk yl nm lm mo mr mk ml _ (by omega) hlx hly hlm hnx hny hnm hxo hxr hxk hxl hyo hyr hyk hyl hmo hmr hmk hml (by rw [Bool.and_assoc, Bool.and_assoc, ← Bool.and_assoc (matB _ _ _ _ _), h, Bool.and_false, if_pos rfl])) (bcheck_raw Ax nx cx xo xr xk xl Ay ny cy yo yr yk yl Am nm cm mo mr mk ml 2 _ hnx hny hnm hxo hxr hxk hxl hyo hyr hyk hyl hmo hmr hmk hml (.inl h) (by rw [if_pos h]))
  by_cases hs : xk = yr ∧ mr = xr ∧ mk = yk
  · have h2 := h
    simp only [Bool.and_eq_true] at h2
    obtain ⟨⟨g1, g2⟩, g3⟩ := h2
    obtain ⟨o, R, C, L, rfl, rfl, rfl, rfl, hLm, hRLm, hrm⟩ := mat_nat g3
    obtain ⟨ox, R2, K, Lx, rfl, rfl, rfl, rfl, hLx, hRLx, hrx⟩ := mat_nat g1
    obtain ⟨oy, K2, C2, Ly, rfl, rfl, rfl, rfl, hLy, hRLy, hry⟩ := mat_nat g2
    obtain ⟨u1, u2, u3⟩ := hs
    have u1 : K = K2 := by omega
    have u2 : R = R2 := by omega
    have u3 : C = C2 := by omega
    subst u1
    subst u2
    subst u3
    clear g1 g2 g3 h
    cases hrt : sizB s1 s2 s3
    · exact blockTells_err0 s1 s2 s3 a b Ax nx cx lx ox R K Lx Ay ny cy ly oy K C Ly Am nm cm lm o R C L 2 1 0 false w hAx hAy hAm hWx hWy hWm hlx hly hlm hnx hny hnm hG (.inr (.inr ⟨rfl, hn0⟩)) hrt (by omega) (fun e => by cases e) (fun _ => rfl) (bkpr0 s1 s2 s3 a b nx lx ox R K Lx ny ly oy K C Ly nm lm o R C L _ (by omega) hlx hly hlm hnx hny hnm hxo hxr hxk hxl hyo hyr hyk hyl hmo hmr hmk hml (by rw [hrt]; rfl)) (bcheck_nat Ax nx cx ox Lx Ay ny cy oy Ly Am nm cm o L R K C 2 _ (by omega) (by omega) (by omega) hnx hny hnm hxo hxl hLx hRLx hrx hyo hyl hLy hRLy hry hmo hml hLm hRLm hrm (by rw [sp_none (show R = 0 ∨ C = 0 by omega), sp_none (show R = 0 ∨ C = 0 by omega)]; rfl))
    · have hS : 1 ≤ s1 ∧ 1 ≤ s2 ∧ 1 ≤ s3 := by unfold sizB at hrt; simpa using hrt
      obtain ⟨n1, rfl⟩ : ∃ n1 : Nat, s1 = (n1 : Int) := ⟨s1.toNat, by omega⟩
      obtain ⟨n2, rfl⟩ : ∃ n2 : Nat, s2 = (n2 : Int) := ⟨s2.toNat, by omega⟩
      obtain ⟨n3, rfl⟩ : ∃ n3 : Nat, s3 = (n3 : Int) := ⟨s3.toNat, by omega⟩
      obtain ⟨i1, i2, i3⟩ := hsI
      unfold I64 at i1 i2 i3
      exact blockTells_ok3 n1 n2 n3 a b Ax nx cx lx Ay ny cy ly Am nm cm lm ox Lx oy Ly o L R K C 2 w hAx hAy hAm hWx hWy hWm hlx hly hlm hnx hny hnm hG (.inr rfl) hn0 (by omega) (by omega) (by omega) ha hb (by omega) (by omega) (by omega) hxo hxl hLx hRLx hrx hyo hyl hLy hRLy hry hmo hml hLm hRLm hrm (bcheck_nat Ax nx cx ox Lx Ay ny cy oy Ly Am nm cm o L R K C 2 _ (by omega) (by omega) (by omega) hnx hny hnm hxo hxl hLx hRLx hrx hyo hyl hLy hRLy hry hmo hml hLm hRLm hrm (by rw [sp_none (show R = 0 ∨ C = 0 by omega), sp_none (show R = 0 ∨ C = 0 by omega)]; rfl))
  · have hq : ((xk != yr) || (mr != xr) || (mk != yk)) = true := by
      by_cases e : xk = yr
      · by_cases e2 : mr = xr
        · have e3 : ¬ mk = yk := fun e3 => hs ⟨e, e2, e3⟩
          simp [e3]
        · simp [e2]
      · simp [e]
    cases hrt : sizB s1 s2 s3
    · exact blockTells_err0 s1 s2 s3 a b Ax nx cx lx xo xr xk xl Ay ny cy ly yo yr yk yl Am nm cm lm mo mr mk ml 2 1 3 false w hAx hAy hAm hWx hWy hWm hlx hly hlm hnx hny hnm hG (.inr (.inr ⟨rfl, hn0⟩)) hrt (by omega) (fun e => by cases e) (fun _ => rfl) (bkpr0 s1 s2 s3 a b nx lx xo xr xk xl ny ly yo yr yk yl nm lm mo mr mk ml _ (by omega) hlx hly hlm hnx hny hnm hxo hxr hxk hxl hyo hyr hyk hyl hmo hmr hmk hml (by rw [hrt]; rfl)) (bcheck_raw Ax nx cx xo xr xk xl Ay ny cy yo yr yk yl Am nm cm mo mr mk ml 2 _ hnx hny hnm hxo hxr hxk hxl hyo hyr hyk hyl hmo hmr hmk hml (.inr hq) (by rw [h]; rfl))
    · exact blockTells_err0 s1 s2 s3 a b Ax nx cx lx xo xr xk xl Ay ny cy ly yo yr yk yl Am nm cm lm mo mr mk ml 2 3 3 true w hAx hAy hAm hWx hWy hWm hlx hly hlm hnx hny hnm hG (.inr (.inr ⟨rfl, hn0⟩)) hrt (by omega) (fun _ => rfl) (fun e => by cases e) (bkpr0 s1 s2 s3 a b nx lx xo xr xk xl ny ly yo yr yk yl nm lm mo mr mk ml _ (by omega) hlx hly hlm hnx hny hnm hxo hxr hxk hxl hyo hyr hyk hyl hmo hmr hmk hml (by rw [hrt, Bool.true_and, h, hq]; rfl)) (bcheck_raw Ax nx cx xo xr xk xl Ay ny cy yo yr yk yl Am nm cm mo mr mk ml 2 _ hnx hny hnm hxo hxr hxk hxl hyo hyr hyk hyl hmo hmr hmk hml (.inr hq) (by rw [h]; rfl))

set_option maxRecDepth 100000 in
set_option maxHeartbeats 4000000 in
theorem blockTells_great (s1 s2 s3 : Int) (a b : Nat) (Ax : Option Addr) (nx cx : Nat) (xo xr xk xl : Int) (Ay : Option Addr) (ny cy : Nat) (yo yr yk yl : Int) (Am : Option Addr) (nm cm : Nat) (mo mr mk ml one : Int) (w : World) (h : (greatB nx xr xk || greatB ny yr yk || greatB nm mr mk) = true) :
    Calls Try.prog 3 #[.agg #[.int .i64 s1, .int .i64 s2, .int .i64 s3], .float .f64 a, mat Ax nx cx xo xr xk xl, mat Ay ny cy yo yr yk yl, .float .f64 b, mat Am nm cm mo mr mk ml, .int .i64 one] w fun e w' => e = .returned (.bool true) ∧ Below w.heap.size w w' := by
  have HGr := Lib.hid (fun W => bgreat_any Ax nx cx xo xr xk xl Ay ny cy yo yr yk yl Am nm cm mo mr mk ml W)
  rw [h] at HGr
  clear h
  unfold mat at *
  go_enter Try.func3, Try.ntmps3
  have Hj0 := Lib.hid ((((Blk.new w 22 #[.int .i64 s1, .int .i64 s2, .int .i64 s3]).alloc (.cells #[.slice Ax nx cx, .int .i64 xo, .int .i64 xr, .int .i64 xk, .int .i64 xl] 26)).alloc (.cells #[.slice Ay ny cy, .int .i64 yo, .int .i64 yr, .int .i64 yk, .int .i64 yl] 26)).alloc (.cells #[.slice Am nm cm, .int .i64 mo, .int .i64 mr, .int .i64 mk, .int .i64 ml] 26))
  have Hx0 := Lib.hid (((Blk.new_ (w.alloc (.cells #[.int .i64 s1, .int .i64 s2, .int .i64 s3] 22)) 26 #[.slice Ax nx cx, .int .i64 xo, .int .i64 xr, .int .i64 xk, .int .i64 xl] (w.heap.size + 1) (by simp)).alloc (.cells #[.slice Ay ny cy, .int .i64 yo, .int .i64 yr, .int .i64 yk, .int .i64 yl] 26)).alloc (.cells #[.slice Am nm cm, .int .i64 mo, .int .i64 mr, .int .i64 mk, .int .i64 ml] 26))
  have Hy0 := Lib.hid ((Blk.new_ ((w.alloc (.cells #[.int .i64 s1, .int .i64 s2, .int .i64 s3] 22)).alloc (.cells #[.slice Ax nx cx, .int .i64 xo, .int .i64 xr, .int .i64 xk, .int .i64 xl] 26)) 26 #[.slice Ay ny cy, .int .i64 yo, .int .i64 yr, .int .i64 yk, .int .i64 yl] (w.heap.size + 1 + 1) (by simp)).alloc (.cells #[.slice Am nm cm, .int .i64 mo, .int .i64 mr, .int .i64 mk, .int .i64 ml] 26))
  have Hm0 := Lib.hid (Blk.new_ (((w.alloc (.cells #[.int .i64 s1, .int .i64 s2, .int .i64 s3] 22)).alloc (.cells #[.slice Ax nx cx, .int .i64 xo, .int .i64 xr, .int .i64 xk, .int .i64 xl] 26)).alloc (.cells #[.slice Ay ny cy, .int .i64 yo, .int .i64 yr, .int .i64 yk, .int .i64 yl] 26)) 26 #[.slice Am nm cm, .int .i64 mo, .int .i64 mr, .int .i64 mk, .int .i64 ml] (w.heap.size + 1 + 1 + 1) (by simp))
  have HB0 := Lib.hid (((((Below.refl w.heap.size w).alloc (Nat.le_refl _) (.cells #[.int .i64 s1, .int .i64 s2, .int .i64 s3] 22)).alloc (by simp) (.cells #[.slice Ax nx cx, .int .i64 xo, .int .i64 xr, .int .i64 xk, .int .i64 xl] 26)).alloc (by simp; omega) (.cells #[.slice Ay ny cy, .int .i64 yo, .int .i64 yr, .int .i64 yk, .int .i64 yl] 26)).alloc (by simp; omega) (.cells #[.slice Am nm cm, .int .i64 mo, .int .i64 mr, .int .i64 mk, .int .i64 ml] 26))
  obtain ⟨j0, j1, j2⟩ := cells3v Hj0.out
  obtain ⟨x0, x1, x2, x3, x4⟩ := cells5 Hx0.out
  obtain ⟨y0, y1, y2, y3, y4⟩ := cells5 Hy0.out
  obtain ⟨m0, m1, m2, m3, m4⟩ := cells5 Hm0.out
  go_wp2_with fail
  refine (awake13_any _).mono ?_
  rintro e w1 ⟨rfl, hb⟩
  have Hj1 := Lib.hid (Hj0.out.nxt hb)
  have Hx1 := Lib.hid (Hx0.out.nxt hb)
  have Hy1 := Lib.hid (Hy0.out.nxt hb)
  have Hm1 := Lib.hid (Hm0.out.nxt hb)
  have HB1 := Lib.hid (below_nx HB0.out hb)
  clear hb
  clear j0 j1 j2 x0 x1 x2 x3 x4 y0 y1 y2 y3 y4 m0 m1 m2 m3 m4
  obtain ⟨j0, j1, j2⟩ := cells3v Hj1.out
  obtain ⟨x0, x1, x2, x3, x4⟩ := cells5 Hx1.out
  obtain ⟨y0, y1, y2, y3, y4⟩ := cells5 Hy1.out
  obtain ⟨m0, m1, m2, m3, m4⟩ := cells5 Hm1.out
  go_wp2_with fail
  refine (HGr.out _).mono ?_
  rintro e w2 ⟨rfl, hb⟩
  have Hj2 := Lib.hid (Hj1.out.nxt hb)
  have Hx2 := Lib.hid (Hx1.out.nxt hb)
  have Hy2 := Lib.hid (Hy1.out.nxt hb)
  have Hm2 := Lib.hid (Hm1.out.nxt hb)
  have HB2 := Lib.hid (below_nx HB1.out hb)
  clear hb
  clear j0 j1 j2 x0 x1 x2 x3 x4 y0 y1 y2 y3 y4 m0 m1 m2 m3 m4
  obtain ⟨j0, j1, j2⟩ := cells3v Hj2.out
  obtain ⟨x0, x1, x2, x3, x4⟩ := cells5 Hx2.out
  obtain ⟨y0, y1, y2, y3, y4⟩ := cells5 Hy2.out
  obtain ⟨m0, m1, m2, m3, m4⟩ := cells5 Hm2.out
  go_wp2_with fail
  refine (awake13_any _).mono ?_
  rintro e w5 ⟨rfl, hb⟩
  have Hj3 := Lib.hid (Hj2.out.nxt hb)
  have Hx3 := Lib.hid (Hx2.out.nxt hb)
  have Hy3 := Lib.hid (Hy2.out.nxt hb)
  have Hm3 := Lib.hid (Hm2.out.nxt hb)
  have HB3 := Lib.hid (below_nx HB2.out hb)
  clear hb
  clear j0 j1 j2 x0 x1 x2 x3 x4 y0 y1 y2 y3 y4 m0 m1 m2 m3 m4
  obtain ⟨j0, j1, j2⟩ := cells3v Hj3.out
  obtain ⟨x0, x1, x2, x3, x4⟩ := cells5 Hx3.out
  obtain ⟨y0, y1, y2, y3, y4⟩ := cells5 Hy3.out
  obtain ⟨m0, m1, m2, m3, m4⟩ := cells5 Hm3.out
  go_wp2_with fail
  go_ret
  exact ⟨rfl, HB3.out⟩

theorem blockTells_walk (s1 s2 s3 : Int) (a : Nat) (Ax : Option Addr) (cx : Nat) (lx : List Nat) (xo xr xk xl : Int) (Ay : Option Addr) (cy : Nat) (ly : List Nat) (yo yr yk yl : Int) (b : Nat) (Am : Option Addr) (cm : Nat) (lm : List Nat) (mo mr mk ml one : Int) (w : World) (hs1 : I64 s1) (hs2 : I64 s2) (hs3 : I64 s3) (ha : a < 18446744073709551616) (hb : b < 18446744073709551616) (hAx : Row w Ax (f64s lx)) (hWx : Wds lx) (hxo : I64 xo) (hxr : I64 xr) (hxk : I64 xk) (hxl : I64 xl)
    (hAy : Row w Ay (f64s ly)) (hWy : Wds ly) (hyo : I64 yo) (hyr : I64 yr) (hyk : I64 yk) (hyl : I64 yl) (hAm : Row w Am (f64s lm)) (hWm : Wds lm) (hmo : I64 mo) (hmr : I64 mr) (hmk : I64 mk) (hml : I64 ml) :
    Calls Try.prog 3 #[.agg #[.int .i64 s1, .int .i64 s2, .int .i64 s3], .float .f64 a, mat Ax lx.length cx xo xr xk xl, mat Ay ly.length cy yo yr yk yl, .float .f64 b, mat Am lm.length cm mo mr mk ml, .int .i64 one] w fun e w' => e = .returned (.bool true) ∧ Below w.heap.size w w' := by
  cases hG : (greatB lx.length xr xk || greatB ly.length yr yk || greatB lm.length mr mk)
  · have hG2 := hG
    simp only [Bool.or_eq_false_iff] at hG2
    have q1 : lx.length ≤ 1000 ∧ xr ≤ 20 ∧ xk ≤ 20 := by have h := hG2.1.1; unfold greatB at h; simp at h; omega
    have q2 : ly.length ≤ 1000 ∧ yr ≤ 20 ∧ yk ≤ 20 := by have h := hG2.1.2; unfold greatB at h; simp at h; omega
    have q3 : lm.length ≤ 1000 ∧ mr ≤ 20 ∧ mk ≤ 20 := by have h := hG2.2; unfold greatB at h; simp at h; omega
    by_cases e1 : one = 1
    · subst e1
      rcases Nat.eq_zero_or_pos lm.length with h0 | h0
      · exact block_case3 s1 s2 s3 a b Ax _ cx lx xo xr xk xl Ay _ cy ly yo yr yk yl Am _ cm lm mo mr mk ml w hAx hAy hAm hWx hWy hWm rfl rfl rfl q1.1 q2.1 q3.1 hG h0 ⟨hs1, hs2, hs3⟩ ha hb hxo hxr hxk hxl hyo hyr hyk hyl hmo hmr hmk hml q1.2 q2.2 q3.2
      · exact block_case1 s1 s2 s3 a b Ax _ cx lx xo xr xk xl Ay _ cy ly yo yr yk yl Am _ cm lm mo mr mk ml w hAx hAy hAm hWx hWy hWm rfl rfl rfl q1.1 q2.1 q3.1 hG h0 ⟨hs1, hs2, hs3⟩ ha hb hxo hxr hxk hxl hyo hyr hyk hyl hmo hmr hmk hml q1.2 q2.2 q3.2
    by_cases e2 : one = 2
    · subst e2
      rcases Nat.eq_zero_or_pos lm.length with h0 | h0
      · exact block_case4 s1 s2 s3 a b Ax _ cx lx xo xr xk xl Ay _ cy ly yo yr yk yl Am _ cm lm mo mr mk ml w hAx hAy hAm hWx hWy hWm rfl rfl rfl q1.1 q2.1 q3.1 hG h0 ⟨hs1, hs2, hs3⟩ ha hb hxo hxr hxk hxl hyo hyr hyk hyl hmo hmr hmk hml q1.2 q2.2 q3.2
      · exact block_case2 s1 s2 s3 a b Ax _ cx lx xo xr xk xl Ay _ cy ly yo yr yk yl Am _ cm lm mo mr mk ml w hAx hAy hAm hWx hWy hWm rfl rfl rfl q1.1 q2.1 q3.1 hG h0 ⟨hs1, hs2, hs3⟩ ha hb hxo hxr hxk hxl hyo hyr hyk hyl hmo hmr hmk hml q1.2 q2.2 q3.2
    exact block_case0 s1 s2 s3 a b Ax _ cx lx xo xr xk xl Ay _ cy ly yo yr yk yl Am _ cm lm mo mr mk ml one w hAx hAy hAm hWx hWy hWm rfl rfl rfl q1.1 q2.1 q3.1 hG (by simp [e1]) (by simp [e2]) ⟨hs1, hs2, hs3⟩ ha hb hxo hxr hxk hxl hyo hyr hyk hyl hmo hmr hmk hml q1.2 q2.2 q3.2
  · exact blockTells_great s1 s2 s3 a b Ax _ cx xo xr xk xl Ay _ cy yo yr yk yl Am _ cm mo mr mk ml one w hG
end Go.Proofs.Ytbeefnekblepfaa
