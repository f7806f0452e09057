/-
Block: Mul where both matrices lie anywhere but in what is written; two answers are the same. Conditions: as each says.
-/
import Derived.Test.YtbeefnekblepfaaZBkU
import Derived.Test.YtbeefnekblepfaaUbad
set_option linter.unusedVariables false
set_option linter.unusedSimpArgs false
set_option linter.unnecessarySimpa false
namespace Go.Proofs.Ytbeefnekblepfaa
open Go.RowKit

set_option maxHeartbeats 1000000 in
theorem bkmul_two (s1 s2 s3 a b : Nat) (Ax : Option Addr) (cx nx : Nat) (lx : List Nat) (om Lm : Nat) (Ay : Option Addr) (cy ny : Nat) (ly : List Nat) (oy Ly : Nat) (g c n : Nat) (l : List Nat) (o L R K C : Nat) (w : World) (h1 : 1 ≤ s1 ∧ s1 < 9223372036854775808) (h2 : 1 ≤ s2 ∧ s2 < 9223372036854775808) (h3 : 1 ≤ s3 ∧ s3 < 9223372036854775808) (ha : a < 18446744073709551616) (hb : b < 18446744073709551616)
    (hFx : FarM w Ax lx g) (hlx : lx.length = nx) (hnx : nx < 1048576) (hWx : Wds lx) (hL1x : 1 ≤ Lm) (hRLx : R ≤ Lm) (hxr : R = 0 ∨ K = 0 ∨ om + (K - 1) * Lm + (R - 1) < nx) (hom : I64 om) (hLm : I64 Lm)
    (hFy : FarM w Ay ly g) (hly : ly.length = ny) (hny : ny < 1048576) (hWy : Wds ly) (hL1y : 1 ≤ Ly) (hRLy : K ≤ Ly) (hyr : K = 0 ∨ C = 0 ∨ oy + (C - 1) * Ly + (K - 1) < ny) (hoy : I64 oy) (hLy : I64 Ly)
    (hO : Own w g l) (hl : l.length = n) (hn : n < 1048576) (hWl : Wds l) (hL1 : 1 ≤ L) (hRL : R ≤ L) (hmr : R = 0 ∨ C = 0 ∨ o + (C - 1) * L + (R - 1) < n) (hoI : I64 o) (hLI : I64 L)
    (hRb : R ≤ 4096) (hKb : K ≤ 4096) (hCb : C ≤ 4096) :
    Calls Try.prog 9 #[.agg #[.int .i64 (s1 : Int), .int .i64 (s2 : Int), .int .i64 (s3 : Int)], .float .f64 a, mat Ax nx cx om R K Lm, mat Ay ny cy oy K C Ly, .float .f64 b, mat (some ⟨g, 0, none⟩) n c o R C L] w fun e w' => e = .returned (.int .i64 0) ∧ BkT a b g l o R C L (rowF lx om Lm) (colF ly oy Ly) w (fun _ _ => K) w' := by
  have iR : I64 (R : Int) := by unfold I64; omega
  have iK : I64 (K : Int) := by unfold I64; omega
  have iC : I64 (C : Int) := by unfold I64; omega
  have hz : sizB (s1 : Int) (s2 : Int) (s3 : Int) = true := by unfold sizB; simp; omega
  have hF := fun W (hb : Below w.heap.size w W) => bkfits_any s1 s2 s3 a Ax nx cx om R K Lm Ay ny cy oy K C Ly (some ⟨g, 0, none⟩) n c o R C L 0 W true true true true false false false false false hz
    (fun W' => by have := good_any Ax nx cx om R K Lm W' (by omega) hom iR iK hLm; rw [mat_right hL1x hRLx hxr] at this; exact this)
    (fun W' => by have := good_any Ay ny cy oy K C Ly W' (by omega) hoy iK iC hLy; rw [mat_right hL1y hRLy hyr] at this; exact this)
    (fun W' => by have := good_any (some ⟨g, 0, none⟩) n c o R C L W' (by omega) hoI iR iC hLI; rw [mat_right hL1 hRL hmr] at this; exact this)
    (by simp) (by simp) (by simp)
    (fun _ _ W' hb' => far_meet g c l n o R C L Ax nx cx lx om R K Lm W' ((hO.nxt hb).nxt hb') hl ((hFx.nxt hb).nxt hb') hlx (by omega) (by omega) hoI iR iC hLI hom iR iK hLm)
    (fun _ _ _ W' hb' => far_meet g c l n o R C L Ay ny cy ly oy K C Ly W' ((hO.nxt hb).nxt hb') hl ((hFy.nxt hb).nxt hb') hly (by omega) (by omega) hoI iR iC hLI hoy iK iC hLy) rfl
  by_cases h0 : R = 0 ∨ C = 0
  · refine (bkmul_none s1 s2 s3 a b _ nx cx om R K Lm _ ny cy oy K C Ly _ n c o R C L w (by omega) hF).mono ?_
    rintro e w' ⟨e1, hb'⟩
    exact ⟨e1, l, hO.nxt hb', ⟨rfl, fun i hi j hj => by omega, fun _ _ => rfl⟩, Chg.of_below hb'⟩
  have hR0 : R ≠ 0 := fun h => h0 (.inl h)
  have hC0 : C ≠ 0 := fun h => h0 (.inr h)
  refine bkmul_ok s1 s2 s3 a b _ nx cx om Lm _ ny cy oy Ly g c n l o L R K C _ _ w hO.lt hR0 hC0 hF (fun W hb1 => ?_) (fun W l0 hO0 hI0 hc0 => ?_)
  · refine bkbegin_any s1 s2 s3 a b _ nx cx om R K Lm _ ny cy oy K C Ly _ n c o R C L _ W (fun W' => bkpart_cols _ nx cx om R K Lm hnx hom hLm (by omega) (by omega) hL1x hRLx hxr W') (fun W' => bkpart_rows _ ny cy oy K C Ly hny hoy hLy (by omega) (by omega) hL1y hRLy hyr W') fun W' hb2 => ?_
    have h := gemul_two a b Ax cx nx lx om Lm Ay cy ny ly oy Ly g c n l o L R 0 C W' ((hFx.nxt hb1).nxt hb2) hlx hnx hWx hL1x hRLx (.inr (.inl rfl)) hom hLm ((hFy.nxt hb1).nxt hb2) hly hny hWy hL1y (Nat.zero_le _) (.inl rfl) hoy hLy ((hO.nxt hb1).nxt hb2) hl hn hWl hL1 hRL hmr hoI hLI (by omega) (by omega) (by omega)
    rw [cst0] at h
    refine h.mono ?_
    rintro e w' ⟨e1, l', k1, k2, k3⟩
    exact ⟨e1, l', k1, k2.congr (fun i hi j hj r hr => hr.is_ ha hb hWl hWx hWy), (Chg.of_below hb2).trans k3⟩
  · refine bkadd_any s1 s2 s3 a b _ nx cx om Lm _ ny cy oy Ly g c n l l0 o L R K C _ _ W h1 h2 h3 hRb hKb hCb hRL hO0 hI0 (fun i0 rn k0 kn p1 p2 p3 p4 W' => bkpart_nat _ nx cx om R K Lm i0 rn k0 kn hnx hom hLm (by omega) (by omega) hL1x hRLx hxr p1 p2 p3 p4 W') (fun k0 kn j0 cn p1 p2 p3 p4 W' => bkpart_nat _ ny cy oy K C Ly k0 kn j0 cn hny hoy hLy (by omega) (by omega) hL1y hRLy hyr p1 p2 p3 p4 W') (fun i0 rn j0 cn p1 p2 p3 p4 W' => bkpart_nat _ n c o R C L i0 rn j0 cn hn hoI hLI (by omega) (by omega) hL1 hRL hmr p1 p2 p3 p4 W') ?_
    intro i0 rn j0 cn k0 kn p1 p2 p3 p4 p5 p6 W' lj hOj hcj hIj
    have hc : Chg [g] w W' := hc0.trans hcj
    obtain ⟨b1, b2, b3⟩ := bk_in hnx hxr p1 p3 p4 p6
    obtain ⟨d1, d2, d3⟩ := bk_in hny hyr p3 p2 p6 p5
    obtain ⟨f1, f2, f3⟩ := bk_in hn hmr p1 p2 p4 p5
    have hlj : lj.length = n := by rw [hIj.1, hl]
    refine (gemul_two a 4607182418800017408 Ax cx nx lx (om + i0 + k0 * Lm) Lm Ay cy ny ly (oy + k0 + j0 * Ly) Ly g c n lj (o + i0 + j0 * L) L rn kn cn W' (hFx.chg hc) hlx hnx hWx hL1x (by omega) (.inr (.inr b2)) b3 hLm (hFy.chg hc) hly hny hWy hL1y (by omega) (.inr (.inr d2)) d3 hLy hOj hlj hn (wds_imre hWl hIj (fun _ _ _ _ _ h => h)) hL1 (by omega) (.inr (.inr f2)) f3 hLI (by omega) (by omega) (by omega)).mono ?_
    rintro e w' ⟨e1, l', k1, k2, k3⟩
    refine ⟨e1, l', k1, k2.congr (fun i hi j hj r hr => ?_), k3⟩
    refine (hr.is_ ha (by decide) (wds_imre hWl hIj (fun _ _ _ _ _ h => h)) hWx hWy).trans_eq (geF_congr rfl (fun k hk => ?_) (fun k hk => ?_))
    · show lx.getD (om + i0 + k0 * Lm + i + k * Lm) 0 = lx.getD (om + (i0 + i) + (k0 + k) * Lm) 0
      congr 1
      rw [Nat.add_mul]; omega
    · show ly.getD (oy + k0 + j0 * Ly + k + j * Ly) 0 = ly.getD (oy + (k0 + k) + (j0 + j) * Ly) 0
      congr 1
      rw [Nat.add_mul]; omega
/-- Two lists of what comes of it are the same. -/
theorem bk_alike {a b : Nat} {l l1 l2 : List Nat} {o R C L : Nat} {f g kd : Nat → Nat → Nat} (h1 : Imr l o R C L (BkP a b l o L f g kd) l1) (h2 : Imr l o R C L (BkP a b l o L f g kd) l2) : Alike l1 l2 := by
  refine ⟨h1.1.trans h2.1.symm, fun x hx hx2 => ?_⟩
  rw [← getD_of_lt hx, ← getD_of_lt hx2]
  by_cases e : ∃ i, i < R ∧ ∃ j, j < C ∧ x = o + i + j * L
  · obtain ⟨i, hi, j, hj, rfl⟩ := e
    exact Is.same (h1.2.1 i hi j hj) (h2.2.1 i hi j hj)
  · have e2 : ∀ i, i < R → ∀ j, j < C → x ≠ o + i + j * L := fun i hi j hj e3 => e ⟨i, hi, j, hj, e3⟩
    rw [h1.2.2 x e2, h2.2.2 x e2]
    exact sameB_refl _
/-- Why not, where both matrices lie anywhere. -/
theorem bkmul_twoerr (s1 s2 s3 : Int) (a b : Nat) (Ax : Option Addr) (cx nx : Nat) (lx : List Nat) (xo xr xk xl : Int) (Ay : Option Addr) (cy ny : Nat) (ly : List Nat) (yo yr yk yl : Int) (g c n : Nat) (l : List Nat) (zo zr zk zl : Int) (E : Int) (w : World) (hE0 : E ≠ 0) (hFx : FarM w Ax lx g) (hlx : lx.length = nx) (hFy : FarM w Ay ly g) (hly : ly.length = ny) (hO : Own w g l) (hl : l.length = n) (hnx : nx ≤ 1000) (hny : ny ≤ 1000) (hn : n ≤ 1000)
    (hxo : I64 xo) (hxr : I64 xr) (hxk : I64 xk) (hxl : I64 xl) (hyo : I64 yo) (hyr : I64 yr) (hyk : I64 yk) (hyl : I64 yl) (hzo : I64 zo) (hzr : I64 zr) (hzk : I64 zk) (hzl : I64 zl)
    (hE : E = if (sizB s1 s2 s3 && matB nx xo xr xk xl && matB ny yo yr yk yl && matB n zo zr zk zl) = false then 1 else if ((xk != yr) || (zr != xr) || (zk != yk)) = true then 3 else if (false || false) = true then 2 else 0) :
    Calls Try.prog 9 #[.agg #[.int .i64 s1, .int .i64 s2, .int .i64 s3], .float .f64 a, mat Ax nx cx xo xr xk xl, mat Ay ny cy yo yr yk yl, .float .f64 b, mat (some ⟨g, 0, none⟩) n c zo zr zk zl] w fun e w' => e = .returned (.int .i64 E) ∧ Below w.heap.size w w' :=
  bkmul_err s1 s2 s3 a b _ nx cx xo xr xk xl _ ny cy yo yr yk yl _ n c zo zr zk zl E w hE0 fun W hb =>
    bkfits_any s1 s2 s3 a _ nx cx xo xr xk xl _ ny cy yo yr yk yl _ n c zo zr zk zl E W _ _ _ _ _ _ _ false false rfl (fun W' => good_any _ nx cx xo xr xk xl W' (by omega) hxo hxr hxk hxl) (fun W' => good_any _ ny cy yo yr yk yl W' (by omega) hyo hyr hyk hyl) (fun W' => good_any _ n c zo zr zk zl W' (by omega) hzo hzr hzk hzl) rfl rfl rfl
      (fun _ _ W' hb' => far_meet g c l n zo zr zk zl Ax nx cx lx xo xr xk xl W' ((hO.nxt hb).nxt hb') hl ((hFx.nxt hb).nxt hb') hlx (by omega) (by omega) hzo hzr hzk hzl hxo hxr hxk hxl)
      (fun _ _ _ W' hb' => far_meet g c l n zo zr zk zl Ay ny cy ly yo yr yk yl W' ((hO.nxt hb).nxt hb') hl ((hFy.nxt hb).nxt hb') hly (by omega) (by omega) hzo hzr hzk hzl hyo hyr hyk hyl) hE
end Go.Proofs.Ytbeefnekblepfaa
