/-
Block's laws: errors. Conditions: as each says.
-/
import Derived.Test.YtbeefnekblepfaaUbac
import Derived.Test.YtbeefnekblepfaaZBkH
import Derived.Test.YtbeefnekblepfaaUbad
set_option linter.unusedVariables false
set_option linter.unusedSimpArgs false
set_option linter.unnecessarySimpa false
namespace Go.Proofs.Ytbeefnekblepfaa
open Go.RowKit
attribute [local go_sem ↓] Go.wp_at_zero Go.wp_at_succ


theorem bkpr0 (s1 s2 s3 : Int) (a b : Nat) (nx : Nat) (lx : List Nat) (xo xr xk xl : Int) (ny : Nat) (ly : List Nat) (yo yr yk yl : Int) (nm : Nat) (lm : List Nat) (mo mr mk ml : Int) (E : Int) (hE0 : E ≠ 0) (hlx : lx.length = nx) (hly : ly.length = ny) (hlm : lm.length = nm) (hnx : nx ≤ 1000) (hny : ny ≤ 1000) (hnm : nm ≤ 1000) (hxo : I64 xo) (hxr : I64 xr) (hxk : I64 xk) (hxl : I64 xl) (hyo : I64 yo) (hyr : I64 yr) (hyk : I64 yk) (hyl : I64 yl) (hmo : I64 mo) (hmr : I64 mr) (hmk : I64 mk) (hml : I64 ml)
    (hE : E = if (sizB s1 s2 s3 && matB nx xo xr xk xl && matB ny yo yr yk yl && matB nm mo mr mk ml) = false then 1 else if ((xk != yr) || (mr != xr) || (mk != yk)) = true then 3 else if (false || false) = true then 2 else 0) :
    ∀ W (g cg gx cx9 gy cy9 : Nat) (h1 : gx ≠ g) (h2 : gy ≠ g) (hO : Own W g lm) (hX : Own W gx lx) (hY : Own W gy ly) , Calls Try.prog 9 #[.agg #[.int .i64 s1, .int .i64 s2, .int .i64 s3], .float .f64 a, mat (some ⟨gx, 0, none⟩) nx cx9 xo xr xk xl, mat (some ⟨gy, 0, none⟩) ny cy9 yo yr yk yl, .float .f64 b, mat (some ⟨g, 0, none⟩) nm cg mo mr mk ml] W fun e w' => e = .returned (.int .i64 E) ∧ Below W.heap.size W w' :=
  fun W g cg gx cx9 gy cy9 h1 h2 hO hX hY => bkmul_err s1 s2 s3 a b _ nx cx9 xo xr xk xl _ ny cy9 yo yr yk yl _ nm cg mo mr mk ml E W hE0 fun W' hb =>
    bkfits_any s1 s2 s3 a _ nx cx9 xo xr xk xl _ ny cy9 yo yr yk yl _ nm cg mo mr mk ml E W' _ _ _ _ _ _ _ false false rfl (fun W' => good_any (some ⟨gx, 0, none⟩) nx cx9 xo xr xk xl W' (by omega) hxo hxr hxk hxl) (fun W' => good_any (some ⟨gy, 0, none⟩) ny cy9 yo yr yk yl W' (by omega) hyo hyr hyk hyl) (fun W' => good_any (some ⟨g, 0, none⟩) nm cg mo mr mk ml W' (by omega) hmo hmr hmk hml) rfl rfl rfl (fun _ _ W2 hb2 => own_away g gx cg cx9 lm lx nm nx mo mr mk ml xo xr xk xl W2 ((hO.nxt hb).nxt hb2) ((hX.nxt hb).nxt hb2) hlm hlx (by omega) (by omega) hmo hmr hmk hml hxo hxr hxk hxl (fun e => (h1 e).elim)) (fun _ _ _ W2 hb2 => own_away g gy cg cy9 lm ly nm ny mo mr mk ml yo yr yk yl W2 ((hO.nxt hb).nxt hb2) ((hY.nxt hb).nxt hb2) hlm hly (by omega) (by omega) hmo hmr hmk hml hyo hyr hyk hyl (fun e => (h2 e).elim)) hE

theorem bkpr1 (s1 s2 s3 : Int) (a b : Nat) (nx : Nat) (lx : List Nat) (xo xr xk xl : Int) (ny : Nat) (ly : List Nat) (yo yr yk yl : Int) (nm : Nat) (lm : List Nat) (mo mr mk ml : Int) (E : Int) (hE0 : E ≠ 0) (hlx : lx.length = nx) (hly : ly.length = ny) (hlm : lm.length = nm) (hnx : nx ≤ 1000) (hny : ny ≤ 1000) (hnm : nm ≤ 1000) (hxo : I64 xo) (hxr : I64 xr) (hxk : I64 xk) (hxl : I64 xl) (hyo : I64 yo) (hyr : I64 yr) (hyk : I64 yk) (hyl : I64 yl) (hmo : I64 mo) (hmr : I64 mr) (hmk : I64 mk) (hml : I64 ml) (m : Bool) (hm : (bothB nm mo mr mk ml nm xo xr xk xl && (decide (mo ≤ lastI xo xr xk xl) && decide (xo ≤ lastI mo mr mk ml))) = m)
    (hE : E = if (sizB s1 s2 s3 && matB nm xo xr xk xl && matB ny yo yr yk yl && matB nm mo mr mk ml) = false then 1 else if ((xk != yr) || (mr != xr) || (mk != yk)) = true then 3 else if (m || false) = true then 2 else 0) :
    ∀ W (g cg gy cy9 : Nat) (h2 : gy ≠ g) (hO : Own W g lm) (hY : Own W gy ly) , Calls Try.prog 9 #[.agg #[.int .i64 s1, .int .i64 s2, .int .i64 s3], .float .f64 a, mat (some ⟨g, 0, none⟩) nm cg xo xr xk xl, mat (some ⟨gy, 0, none⟩) ny cy9 yo yr yk yl, .float .f64 b, mat (some ⟨g, 0, none⟩) nm cg mo mr mk ml] W fun e w' => e = .returned (.int .i64 E) ∧ Below W.heap.size W w' :=
  fun W g cg gy cy9 h2 hO hY => bkmul_err s1 s2 s3 a b _ nm cg xo xr xk xl _ ny cy9 yo yr yk yl _ nm cg mo mr mk ml E W hE0 fun W' hb =>
    bkfits_any s1 s2 s3 a _ nm cg xo xr xk xl _ ny cy9 yo yr yk yl _ nm cg mo mr mk ml E W' _ _ _ _ _ _ _ m false rfl (fun W' => good_any (some ⟨g, 0, none⟩) nm cg xo xr xk xl W' (by omega) hxo hxr hxk hxl) (fun W' => good_any (some ⟨gy, 0, none⟩) ny cy9 yo yr yk yl W' (by omega) hyo hyr hyk hyl) (fun W' => good_any (some ⟨g, 0, none⟩) nm cg mo mr mk ml W' (by omega) hmo hmr hmk hml) rfl rfl rfl (fun _ _ W2 hb2 => own_near g cg cg lm nm mo mr mk ml xo xr xk xl m W2 ((hO.nxt hb).nxt hb2) hlm (by omega) hmo hmr hmk hml hxo hxr hxk hxl hm) (fun _ _ _ W2 hb2 => own_away g gy cg cy9 lm ly nm ny mo mr mk ml yo yr yk yl W2 ((hO.nxt hb).nxt hb2) ((hY.nxt hb).nxt hb2) hlm hly (by omega) (by omega) hmo hmr hmk hml hyo hyr hyk hyl (fun e => (h2 e).elim)) hE

theorem bkpr2 (s1 s2 s3 : Int) (a b : Nat) (nx : Nat) (lx : List Nat) (xo xr xk xl : Int) (ny : Nat) (ly : List Nat) (yo yr yk yl : Int) (nm : Nat) (lm : List Nat) (mo mr mk ml : Int) (E : Int) (hE0 : E ≠ 0) (hlx : lx.length = nx) (hly : ly.length = ny) (hlm : lm.length = nm) (hnx : nx ≤ 1000) (hny : ny ≤ 1000) (hnm : nm ≤ 1000) (hxo : I64 xo) (hxr : I64 xr) (hxk : I64 xk) (hxl : I64 xl) (hyo : I64 yo) (hyr : I64 yr) (hyk : I64 yk) (hyl : I64 yl) (hmo : I64 mo) (hmr : I64 mr) (hmk : I64 mk) (hml : I64 ml) (m : Bool) (hm : (bothB nm mo mr mk ml nm yo yr yk yl && (decide (mo ≤ lastI yo yr yk yl) && decide (yo ≤ lastI mo mr mk ml))) = m)
    (hE : E = if (sizB s1 s2 s3 && matB nx xo xr xk xl && matB nm yo yr yk yl && matB nm mo mr mk ml) = false then 1 else if ((xk != yr) || (mr != xr) || (mk != yk)) = true then 3 else if (false || m) = true then 2 else 0) :
    ∀ W (g cg gx cx9 : Nat) (h1 : gx ≠ g) (hO : Own W g lm) (hX : Own W gx lx) , Calls Try.prog 9 #[.agg #[.int .i64 s1, .int .i64 s2, .int .i64 s3], .float .f64 a, mat (some ⟨gx, 0, none⟩) nx cx9 xo xr xk xl, mat (some ⟨g, 0, none⟩) nm cg yo yr yk yl, .float .f64 b, mat (some ⟨g, 0, none⟩) nm cg mo mr mk ml] W fun e w' => e = .returned (.int .i64 E) ∧ Below W.heap.size W w' :=
  fun W g cg gx cx9 h1 hO hX => bkmul_err s1 s2 s3 a b _ nx cx9 xo xr xk xl _ nm cg yo yr yk yl _ nm cg mo mr mk ml E W hE0 fun W' hb =>
    bkfits_any s1 s2 s3 a _ nx cx9 xo xr xk xl _ nm cg yo yr yk yl _ nm cg mo mr mk ml E W' _ _ _ _ _ _ _ false m rfl (fun W' => good_any (some ⟨gx, 0, none⟩) nx cx9 xo xr xk xl W' (by omega) hxo hxr hxk hxl) (fun W' => good_any (some ⟨g, 0, none⟩) nm cg yo yr yk yl W' (by omega) hyo hyr hyk hyl) (fun W' => good_any (some ⟨g, 0, none⟩) nm cg mo mr mk ml W' (by omega) hmo hmr hmk hml) rfl rfl rfl (fun _ _ W2 hb2 => own_away g gx cg cx9 lm lx nm nx mo mr mk ml xo xr xk xl W2 ((hO.nxt hb).nxt hb2) ((hX.nxt hb).nxt hb2) hlm hlx (by omega) (by omega) hmo hmr hmk hml hxo hxr hxk hxl (fun e => (h1 e).elim)) (fun _ _ _ W2 hb2 => own_near g cg cg lm nm mo mr mk ml yo yr yk yl m W2 ((hO.nxt hb).nxt hb2) hlm (by omega) hmo hmr hmk hml hyo hyr hyk hyl hm) hE

theorem bspans (a b c d : Int) (W : World) : Calls Try.prog 23 #[.int .i64 a, .int .i64 b, .int .i64 c, .int .i64 d] W fun e w' => e = .returned (.bool (spB a b c d)) ∧ Below W.heap.size W w' :=
  (spans_any a b c d W).mono fun e w' h => ⟨h.1, h.2 ▸ Below.refl _ _⟩
/-- What the law finds wrong, where it isn't right or doesn't fit. -/
theorem bcheck_raw (Ax : Option Addr) (nx cx : Nat) (xo xr xk xl : Int) (Ay : Option Addr) (ny cy : Nat) (yo yr yk yl : Int) (Am : Option Addr) (nm cm : Nat) (mo mr mk ml : Int) (one k : Int) (hnx : nx ≤ 1000) (hny : ny ≤ 1000) (hnm : nm ≤ 1000) (hxo : I64 xo) (hxr : I64 xr) (hxk : I64 xk) (hxl : I64 xl) (hyo : I64 yo) (hyr : I64 yr) (hyk : I64 yk) (hyl : I64 yl) (hmo : I64 mo) (hmr : I64 mr) (hmk : I64 mk) (hml : I64 ml)
    (h : (matB nx xo xr xk xl && matB ny yo yr yk yl && matB nm mo mr mk ml) = false ∨ ((xk != yr) || (mr != xr) || (mk != yk)) = true)
    (hk : k = if (matB nx xo xr xk xl && matB ny yo yr yk yl && matB nm mo mr mk ml) = false then 1 else 3) :
    ∀ W, Calls Try.prog 10 #[mat Ax nx cx xo xr xk xl, mat Ay ny cy yo yr yk yl, mat Am nm cm mo mr mk ml, .int .i64 one] W fun e w' => e = .returned (.int .i64 k) ∧ Below W.heap.size W w' := fun W => by
  have h12 : (one == 1) = true → (one == 2) = false := fun e => by
    have : one = 1 := by simpa using e
    rw [this]; rfl
  have hno : (matB nx xo xr xk xl && matB ny yo yr yk yl && matB nm mo mr mk ml) = true → ((xk != yr) || (mr != xr) || (mk != yk)) = false → False := fun e1 e2 => by
    rcases h with h | h
    · rw [e1] at h; cases h
    · rw [e2] at h; cases h
  refine bcheck_any Ax nx cx xo xr xk xl Ay ny cy yo yr yk yl Am nm cm mo mr mk ml one k W _ _ _ _ _ _ _ _ _ _ 0 0 0 0 0 0 (fun W' => rgood_any Ax nx cx xo xr xk xl W' (by omega) hxo hxr hxk hxl) (fun W' => rgood_any Ay ny cy yo yr yk yl W' (by omega) hyo hyr hyk hyl) (fun W' => rgood_any Am nm cm mo mr mk ml W' (by omega) hmo hmr hmk hml) rfl rfl rfl rfl rfl h12 (fun e1 e2 => (hno e1 e2).elim) (fun e1 e2 => (hno e1 e2).elim) (fun e1 e2 => (hno e1 e2).elim) (fun W' => bspans 0 0 0 0 W') (fun W' => bspans 0 0 0 0 W') ?_
  rw [hk]
  rcases h with h | h
  · rw [if_pos h, if_pos h]
  · rw [if_pos h]
/-- What the law finds wrong, where all fits. -/
theorem bcheck_nat (Ax : Option Addr) (nx cx ox Lx : Nat) (Ay : Option Addr) (ny cy oy Ly : Nat) (Am : Option Addr) (nm cm o L : Nat) (R K C : Nat) (one k : Int) (hRb : R ≤ 20) (hKb : K ≤ 20) (hCb : C ≤ 20) (hnx : nx ≤ 1000) (hny : ny ≤ 1000) (hnm : nm ≤ 1000)
    (hiox : I64 ox) (hilx : I64 Lx) (hLx : 1 ≤ Lx) (hRLx : R ≤ Lx) (hrx : R = 0 ∨ K = 0 ∨ ox + (K - 1) * Lx + (R - 1) < nx) (hioy : I64 oy) (hily : I64 Ly) (hLy : 1 ≤ Ly) (hRLy : K ≤ Ly) (hry : K = 0 ∨ C = 0 ∨ oy + (C - 1) * Ly + (K - 1) < ny) (hiom : I64 o) (hilm : I64 L) (hLm : 1 ≤ L) (hRLm : R ≤ L) (hrm : R = 0 ∨ C = 0 ∨ o + (C - 1) * L + (R - 1) < nm)
    (hk : k = if (((one == 1) && spB (msA o R C) (msB o R C L) (msA ox R K) (msB ox R K Lx)) || ((one == 2) && spB (msA o R C) (msB o R C L) (msA oy K C) (msB oy K C Ly))) = true then 2 else 0) :
    ∀ W, Calls Try.prog 10 #[mat Ax nx cx ox R K Lx, mat Ay ny cy oy K C Ly, mat Am nm cm o R C L, .int .i64 one] W fun e w' => e = .returned (.int .i64 k) ∧ Below W.heap.size W w' := fun W => by
  have h12 : (one == 1) = true → (one == 2) = false := fun e => by
    have : one = 1 := by simpa using e
    rw [this]; rfl
  have iR : I64 (R : Int) := by unfold I64; omega
  have iK : I64 (K : Int) := by unfold I64; omega
  have iC : I64 (C : Int) := by unfold I64; omega
  refine bcheck_any Ax nx cx ox R K Lx Ay ny cy oy K C Ly Am nm cm o R C L one k W true true true false false false _ _ _ _ _ _ _ _ _ _
    (fun W' => by have := rgood_any Ax nx cx ox R K Lx W' (by omega) hiox iR iK hilx; rw [mat_right hLx hRLx hrx] at this; exact this)
    (fun W' => by have := rgood_any Ay ny cy oy K C Ly W' (by omega) hioy iK iC hily; rw [mat_right hLy hRLy hry] at this; exact this)
    (fun W' => by have := rgood_any Am nm cm o R C L W' (by omega) hiom iR iC hilm; rw [mat_right hLm hRLm hrm] at this; exact this)
    (by simp) (by simp) (by simp) rfl rfl h12 (fun _ _ W' => mspan_any Am nm cm o R C L W' (by omega) (by omega) (by omega) hrm) (fun _ _ W' => mspan_any Ax nx cx ox R K Lx W' (by omega) (by omega) (by omega) hrx) (fun _ _ W' => mspan_any Ay ny cy oy K C Ly W' (by omega) (by omega) (by omega) hry) (fun W' => bspans _ _ _ _ W') (fun W' => bspans _ _ _ _ W') ?_
  rw [hk]
  rfl
end Go.Proofs.Ytbeefnekblepfaa
