/-
Block: Mul over lists of the call's own; why not. Conditions: as each says.
-/
import Derived.Test.YtbeefnekblepfaaZBkF
import Derived.Test.YtbeefnekblepfaaZGeE
import Derived.Test.YtbeefnekblepfaaUaao
import Derived.Test.YtbeefnekblepfaaUaae
set_option linter.unusedVariables false
set_option linter.unusedSimpArgs false
set_option linter.unnecessarySimpa false
namespace Go.Proofs.Ytbeefnekblepfaa
open Go.RowKit

/-- Where a block of a right matrix lies. -/
theorem bk_in {n o R C L i0 rn j0 cn : Nat} (hn : n < 1048576) (hr : R = 0 ∨ C = 0 ∨ o + (C - 1) * L + (R - 1) < n) (h1 : 1 ≤ rn) (h2 : 1 ≤ cn) (h3 : i0 + rn ≤ R) (h4 : j0 + cn ≤ C) :
    o + i0 + j0 * L + (cn - 1) * L + (rn - 1) ≤ o + (C - 1) * L + (R - 1) ∧ o + i0 + j0 * L + (cn - 1) * L + (rn - 1) < n ∧ I64 ((o + i0 + j0 * L : Nat) : Int) := by
  have e : j0 * L + (cn - 1) * L = (j0 + cn - 1) * L := by rw [← Nat.add_mul]; congr 1; omega
  have e2 : (j0 + cn - 1) * L ≤ (C - 1) * L := Nat.mul_le_mul_right _ (by omega)
  have hr' := (hr.resolve_left (by omega)).resolve_left (by omega)
  generalize (C - 1) * L = p at *
  generalize (j0 + cn - 1) * L = q at *
  generalize (cn - 1) * L = u at *
  generalize j0 * L = v at *
  refine ⟨by omega, by omega, by unfold I64; omega⟩
/-- Blocks of matrices that lie apart do so too. -/
theorem bk_away {o R C L o' R' C' L' i0 rn j0 cn i0' rn' j0' cn' : Nat} (h : Away o R C L o' R' C' L') (h1 : 1 ≤ rn) (h2 : 1 ≤ cn) (h3 : i0 + rn ≤ R) (h4 : j0 + cn ≤ C) (k1 : 1 ≤ rn') (k2 : 1 ≤ cn') (k3 : i0' + rn' ≤ R') (k4 : j0' + cn' ≤ C') :
    Away (o + i0 + j0 * L) rn cn L (o' + i0' + j0' * L') rn' cn' L' := by
  have e : j0 * L + (cn - 1) * L = (j0 + cn - 1) * L := by rw [← Nat.add_mul]; congr 1; omega
  have e2 : (j0 + cn - 1) * L ≤ (C - 1) * L := Nat.mul_le_mul_right _ (by omega)
  have e' : j0' * L' + (cn' - 1) * L' = (j0' + cn' - 1) * L' := by rw [← Nat.add_mul]; congr 1; omega
  have e2' : (j0' + cn' - 1) * L' ≤ (C' - 1) * L' := Nat.mul_le_mul_right _ (by omega)
  have h' := (h.resolve_left (by omega)).resolve_left (by omega)
  unfold Away
  right; right
  generalize (C - 1) * L = p at *
  generalize (j0 + cn - 1) * L = q at *
  generalize (cn - 1) * L = u at *
  generalize j0 * L = v at *
  generalize (C' - 1) * L' = p' at *
  generalize (j0' + cn' - 1) * L' = q' at *
  generalize (cn' - 1) * L' = u' at *
  generalize j0' * L' = v' at *
  omega
/-- A list that is read, where another may be written, elsewhere. -/
theorem bk_keep {g gx n nx : Nat} {l lj lx : List Nat} {o R C L ox Rx Cx Lx : Nat} {w W : World} (hOx : Own w gx lx) (hlx : lx.length = nx) (hWx : Wds lx) (hWl : Wds l) (hs : gx = g → lx = l ∧ nx = n) (hl : l.length = n) (hp : Imr l o R C L (fun _ _ r => r < 18446744073709551616) lj) (hO : Own W g lj) (hc : Chg [g] w W) (ha : gx = g → Away o R C L ox Rx Cx Lx) :
    ∃ lx' : List Nat, Own W gx lx' ∧ lx'.length = nx ∧ Wds lx' ∧ (gx = g → lx' = lj ∧ nx = n) ∧ ∀ a, a < Rx → ∀ b, b < Cx → lx'.getD (ox + a + b * Lx) 0 = lx.getD (ox + a + b * Lx) 0 := by
  by_cases e : gx = g
  · obtain ⟨e1, e2⟩ := hs e
    refine ⟨lj, by rw [e]; exact hO, by rw [hp.1, hl, e2], wds_imre hWl hp (fun _ _ _ _ _ h => h), fun _ => ⟨rfl, e2⟩, fun a ha2 b hb => ?_⟩
    rw [e1]
    refine hp.2.2 _ fun i hi q hq e3 => ?_
    have h1 : b * Lx ≤ (Cx - 1) * Lx := Nat.mul_le_mul_right Lx (by omega)
    have h2 : q * L ≤ (C - 1) * L := Nat.mul_le_mul_right L (by omega)
    rcases ha e with h | h | h | h <;> omega
  · exact ⟨lx, hc.own (by simpa using e) hOx, hlx, hWx, fun e' => (e e').elim, fun _ _ _ _ => rfl⟩
theorem cst0 : ((0 : Nat) : Int) = 0 := rfl
/-- x's row, y's column. -/
def rowF (lx : List Nat) (om Lm i k : Nat) : Nat := lx.getD (om + i + k * Lm) 0
def colF (ly : List Nat) (oy Ly j k : Nat) : Nat := ly.getD (oy + k + j * Ly) 0

set_option maxHeartbeats 1000000 in
theorem bkmul_own (s1 s2 s3 a b : Nat) (gx cx nx : Nat) (lx : List Nat) (om Lm : Nat) (gy cy ny : Nat) (ly : List Nat) (oy Ly : Nat) (g c n : Nat) (l : List Nat) (o L R K C : Nat) (w : World) (h1 : 1 ≤ s1 ∧ s1 < 9223372036854775808) (h2 : 1 ≤ s2 ∧ s2 < 9223372036854775808) (h3 : 1 ≤ s3 ∧ s3 < 9223372036854775808) (ha : a < 18446744073709551616) (hb : b < 18446744073709551616)
    (hOx : Own w gx lx) (hlx : lx.length = nx) (hnx : nx < 1048576) (hWx : Wds lx) (hL1x : 1 ≤ Lm) (hRLx : R ≤ Lm) (hxr : R = 0 ∨ K = 0 ∨ om + (K - 1) * Lm + (R - 1) < nx) (hom : I64 om) (hLm : I64 Lm)
    (hOy : Own w gy ly) (hly : ly.length = ny) (hny : ny < 1048576) (hWy : Wds ly) (hL1y : 1 ≤ Ly) (hRLy : K ≤ Ly) (hyr : K = 0 ∨ C = 0 ∨ oy + (C - 1) * Ly + (K - 1) < ny) (hoy : I64 oy) (hLy : I64 Ly)
    (hO : Own w g l) (hl : l.length = n) (hn : n < 1048576) (hWl : Wds l) (hL1 : 1 ≤ L) (hRL : R ≤ L) (hmr : R = 0 ∨ C = 0 ∨ o + (C - 1) * L + (R - 1) < n) (hoI : I64 o) (hLI : I64 L)
    (hRb : R ≤ 4096) (hKb : K ≤ 4096) (hCb : C ≤ 4096) (hsx : gx = g → lx = l ∧ nx = n) (hsy : gy = g → ly = l ∧ ny = n) (hax : gx = g → Away o R C L om R K Lm) (hay : gy = g → Away o R C L oy K C Ly) :
    Calls Try.prog 9 #[.agg #[.int .i64 (s1 : Int), .int .i64 (s2 : Int), .int .i64 (s3 : Int)], .float .f64 a, mat (some ⟨gx, 0, none⟩) nx cx om R K Lm, mat (some ⟨gy, 0, none⟩) ny cy oy K C Ly, .float .f64 b, mat (some ⟨g, 0, none⟩) n c o R C L] w fun e w' => e = .returned (.int .i64 0) ∧ BkT a b g l o R C L (rowF lx om Lm) (colF ly oy Ly) w (fun _ _ => K) w' := by
  have iR : I64 (R : Int) := by unfold I64; omega
  have iK : I64 (K : Int) := by unfold I64; omega
  have iC : I64 (C : Int) := by unfold I64; omega
  have hz : sizB (s1 : Int) (s2 : Int) (s3 : Int) = true := by unfold sizB; simp; omega
  have hF := fun W (hb : Below w.heap.size w W) => bkfits_any s1 s2 s3 a (some ⟨gx, 0, none⟩) nx cx om R K Lm (some ⟨gy, 0, none⟩) ny cy oy K C Ly (some ⟨g, 0, none⟩) n c o R C L 0 W true true true true false false false false false hz
    (fun W' => by have := good_any (some ⟨gx, 0, none⟩) nx cx om R K Lm W' (by omega) hom iR iK hLm; rw [mat_right hL1x hRLx hxr] at this; exact this)
    (fun W' => by have := good_any (some ⟨gy, 0, none⟩) ny cy oy K C Ly W' (by omega) hoy iK iC hLy; rw [mat_right hL1y hRLy hyr] at this; exact this)
    (fun W' => by have := good_any (some ⟨g, 0, none⟩) n c o R C L W' (by omega) hoI iR iC hLI; rw [mat_right hL1 hRL hmr] at this; exact this)
    (by simp) (by simp) (by simp)
    (fun _ _ W' hb' => own_away g gx c cx l lx n nx o R C L om R K Lm W' ((hO.nxt hb).nxt hb') ((hOx.nxt hb).nxt hb') hl hlx hn hnx hoI iR iC hLI hom iR iK hLm (fun e => all_meet (hax e)))
    (fun _ _ _ W' hb' => own_away g gy c cy l ly n ny o R C L oy K C Ly W' ((hO.nxt hb).nxt hb') ((hOy.nxt hb).nxt hb') hl hly hn hny hoI iR iC hLI hoy iK iC hLy (fun e => all_meet (hay e))) rfl
  by_cases h0 : R = 0 ∨ C = 0
  · refine (bkmul_none s1 s2 s3 a b _ nx cx om R K Lm _ ny cy oy K C Ly _ n c o R C L w (by omega) hF).mono ?_
    rintro e w' ⟨e1, hb'⟩
    exact ⟨e1, l, hO.nxt hb', ⟨rfl, fun i hi j hj => by omega, fun _ _ => rfl⟩, Chg.of_below hb'⟩
  have hR0 : R ≠ 0 := fun h => h0 (.inl h)
  have hC0 : C ≠ 0 := fun h => h0 (.inr h)
  refine bkmul_ok s1 s2 s3 a b _ nx cx om Lm _ ny cy oy Ly g c n l o L R K C _ _ w hO.lt hR0 hC0 hF (fun W hb1 => ?_) (fun W l0 hO0 hI0 hc0 => ?_)
  · refine bkbegin_any s1 s2 s3 a b _ nx cx om R K Lm _ ny cy oy K C Ly _ n c o R C L _ W (fun W' => bkpart_cols _ nx cx om R K Lm hnx hom hLm (by omega) (by omega) hL1x hRLx hxr W') (fun W' => bkpart_rows _ ny cy oy K C Ly hny hoy hLy (by omega) (by omega) hL1y hRLy hyr W') fun W' hb2 => ?_
    have h := gemul_own a b gx cx nx lx om Lm gy cy ny ly oy Ly g c n l o L R 0 C W' ((hOx.nxt hb1).nxt hb2) hlx hnx hWx hL1x hRLx (.inr (.inl rfl)) hom hLm ((hOy.nxt hb1).nxt hb2) hly hny hWy hL1y (Nat.zero_le _) (.inl rfl) hoy hLy ((hO.nxt hb1).nxt hb2) hl hn hWl hL1 hRL hmr hoI hLI (by omega) (by omega) (by omega) hsx hsy (fun _ => .inl (.inr rfl)) (fun _ => .inl (.inl rfl))
    rw [cst0] at h
    refine h.mono ?_
    rintro e w' ⟨e1, l', k1, k2, k3⟩
    exact ⟨e1, l', k1, k2.congr (fun i hi j hj r hr => hr.is_ ha hb hWl hWx hWy), (Chg.of_below hb2).trans k3⟩
  · refine bkadd_any s1 s2 s3 a b _ nx cx om Lm _ ny cy oy Ly g c n l l0 o L R K C _ _ W h1 h2 h3 hRb hKb hCb hRL hO0 hI0 (fun i0 rn k0 kn p1 p2 p3 p4 W' => bkpart_nat _ nx cx om R K Lm i0 rn k0 kn hnx hom hLm (by omega) (by omega) hL1x hRLx hxr p1 p2 p3 p4 W') (fun k0 kn j0 cn p1 p2 p3 p4 W' => bkpart_nat _ ny cy oy K C Ly k0 kn j0 cn hny hoy hLy (by omega) (by omega) hL1y hRLy hyr p1 p2 p3 p4 W') (fun i0 rn j0 cn p1 p2 p3 p4 W' => bkpart_nat _ n c o R C L i0 rn j0 cn hn hoI hLI (by omega) (by omega) hL1 hRL hmr p1 p2 p3 p4 W') ?_
    intro i0 rn j0 cn k0 kn p1 p2 p3 p4 p5 p6 W' lj hOj hcj hIj
    have hc : Chg [g] w W' := hc0.trans hcj
    obtain ⟨lx', x1, x2, x3, x4, x5⟩ := bk_keep hOx hlx hWx hWl hsx hl hIj hOj hc hax
    obtain ⟨ly', y1, y2, y3, y4, y5⟩ := bk_keep hOy hly hWy hWl hsy hl hIj hOj hc hay
    obtain ⟨b1, b2, b3⟩ := bk_in hnx hxr p1 p3 p4 p6
    obtain ⟨d1, d2, d3⟩ := bk_in hny hyr p3 p2 p6 p5
    obtain ⟨f1, f2, f3⟩ := bk_in hn hmr p1 p2 p4 p5
    have hlj : lj.length = n := by rw [hIj.1, hl]
    refine (gemul_own a 4607182418800017408 gx cx nx lx' (om + i0 + k0 * Lm) Lm gy cy ny ly' (oy + k0 + j0 * Ly) Ly g c n lj (o + i0 + j0 * L) L rn kn cn W' x1 x2 hnx x3 hL1x (by omega) (.inr (.inr b2)) b3 hLm y1 y2 hny y3 hL1y (by omega) (.inr (.inr d2)) d3 hLy hOj hlj hn (wds_imre hWl hIj (fun _ _ _ _ _ h => h)) hL1 (by omega) (.inr (.inr f2)) f3 hLI (by omega) (by omega) (by omega) x4 y4 (fun e => bk_away (hax e) p1 p2 p4 p5 p1 p3 p4 p6) (fun e => bk_away (hay e) p1 p2 p4 p5 p3 p2 p6 p5)).mono ?_
    rintro e w' ⟨e1, l', k1, k2, k3⟩
    refine ⟨e1, l', k1, k2.congr (fun i hi j hj r hr => ?_), k3⟩
    refine (hr.is_ ha (by decide) (wds_imre hWl hIj (fun _ _ _ _ _ h => h)) x3 y3).trans_eq (geF_congr rfl (fun k hk => ?_) (fun k hk => ?_))
    · have := x5 (i0 + i) (by omega) (k0 + k) (by omega)
      rw [show om + i0 + k0 * Lm + i + k * Lm = om + (i0 + i) + (k0 + k) * Lm by rw [Nat.add_mul]; omega]
      exact this
    · have := y5 (k0 + k) (by omega) (j0 + j) (by omega)
      rw [show oy + k0 + j0 * Ly + k + j * Ly = oy + (k0 + k) + (j0 + j) * Ly by rw [Nat.add_mul]; omega]
      exact this
end Go.Proofs.Ytbeefnekblepfaa
/-
Block's laws: the example. Conditions: none.
-/
set_option linter.unusedVariables false
set_option linter.unusedSimpArgs false
set_option linter.unnecessarySimpa false
namespace Go.Proofs.Ytbeefnekblepfaa
open Go.RowKit
attribute [local go_sem ↓] Go.wp_at_zero Go.wp_at_succ

theorem ex_bkmul {l' : List Nat} (h : Imr exE0 0 2 1 2 (BkP 4607182418800017408 0 exE0 0 2 (rowF exEd 0 2) (colF exE2 0 2) (fun _ _ => 2)) l') : l' = exEr := by
  have key : ∀ a v, a < 2 → geF 4607182418800017408 0 (exE0.getD (0 + a + 0 * 2) 0) (fun k => exEd.getD (0 + a + k * 2) 0) (fun k => exE2.getD (0 + k + 0 * 2) 0) 2 = v → Fl.nan v = false → l'.getD (0 + a + 0 * 2) 0 = v := by
    intro a v ha hv hn
    have h9 : Is (l'.getD (0 + a + 0 * 2) 0) (geF 4607182418800017408 0 (exE0.getD (0 + a + 0 * 2) 0) (fun k => exEd.getD (0 + a + k * 2) 0) (fun k => exE2.getD (0 + k + 0 * 2) 0) 2) := h.2.1 a ha 0 (by omega)
    rw [hv] at h9
    exact h9.eq_of hn
  refine ext_getD (by rw [h.1]; rfl) fun x hx => ?_
  have hx2 : x < 2 := by rw [h.1] at hx; exact hx
  match x, hx2 with
  | 0, _ => exact key 0 _ (by omega) (by decide +kernel) (by decide)
  | 1, _ => exact key 1 _ (by omega) (by decide +kernel) (by decide)

set_option maxRecDepth 100000 in
set_option maxHeartbeats 2000000 in
theorem awake13_any (w : World) : Calls Try.prog 5 #[] w fun e w' => e = .returned (.bool true) ∧ Below w.heap.size w w' := by
  have z0 : I64 0 := by unfold I64; omega
  have z2 : I64 2 := by unfold I64; omega
  have HD1 := Lib.hid (fun (g : Nat) W (hO : Own W g exE4) => show Calls Try.prog 16 #[.int .i64 2, .int .i64 2, .slice (some ⟨g, 0, none⟩) 4 4] W fun e w' => ∃ g, e = .returned (.agg #[.slice (some ⟨g, 0, none⟩) 4 4, .int .i64 0, .int .i64 2, .int .i64 2, .int .i64 2]) ∧ Own w' g exEd ∧ W.heap.size ≤ g ∧ Below W.heap.size W w' from by
    refine (dense_blk (some ⟨g, 0, none⟩) 4 exE4 2 2 W (by omega) (by omega) hO.row (by decide) (by decide)).mono ?_
    rintro e w' ⟨g', M, rfl, hd, hB, hg, hb⟩
    obtain rfl := ex_denseE hd
    exact ⟨g', rfl, own_blk hB, hg, hb⟩)
  have HD2 := Lib.hid (fun (g : Nat) W (hO : Own W g exE2) => show Calls Try.prog 16 #[.int .i64 2, .int .i64 1, .slice (some ⟨g, 0, none⟩) 2 2] W fun e w' => ∃ g, e = .returned (.agg #[.slice (some ⟨g, 0, none⟩) 2 2, .int .i64 0, .int .i64 2, .int .i64 1, .int .i64 2]) ∧ Own w' g exE2 ∧ W.heap.size ≤ g ∧ Below W.heap.size W w' from by
    refine (dense_blk (some ⟨g, 0, none⟩) 2 exE2 2 1 W (by omega) (by omega) hO.row (by decide) (by decide)).mono ?_
    rintro e w' ⟨g', M, rfl, hd, hB, hg, hb⟩
    obtain rfl := ex_denseF hd
    exact ⟨g', rfl, own_blk hB, hg, hb⟩)
  have HD0 := Lib.hid (fun W => show Calls Try.prog 16 #[.int .i64 2, .int .i64 1, .slice none 0 0] W fun e w' => ∃ g, e = .returned (.agg #[.slice (some ⟨g, 0, none⟩) 2 2, .int .i64 0, .int .i64 2, .int .i64 1, .int .i64 2]) ∧ Own w' g exE0 ∧ W.heap.size ≤ g ∧ Below W.heap.size W w' from by
    refine (dense_blk none 0 [] 2 1 W (by omega) (by omega) (.inl rfl) (by decide) (by decide)).mono ?_
    rintro e w' ⟨g', M, rfl, hd, hB, hg, hb⟩
    obtain rfl := ex_denseG hd
    exact ⟨g', rfl, own_blk hB, hg, hb⟩)
  have HMu := Lib.hid (fun (s : Nat) (hs : 1 ≤ s ∧ s < 9223372036854775808) (g gx gy : Nat) W (hO : Own W g exE0) (hX : Own W gx exEd) (hY : Own W gy exE2) (h1 : gx ≠ g) (h2 : gy ≠ g) => show Calls Try.prog 9 #[.agg #[.int .i64 (s : Int), .int .i64 (s : Int), .int .i64 (s : Int)], .float .f64 4607182418800017408, .agg #[.slice (some ⟨gx, 0, none⟩) 4 4, .int .i64 0, .int .i64 2, .int .i64 2, .int .i64 2], .agg #[.slice (some ⟨gy, 0, none⟩) 2 2, .int .i64 0, .int .i64 2, .int .i64 1, .int .i64 2], .float .f64 0, .agg #[.slice (some ⟨g, 0, none⟩) 2 2, .int .i64 0, .int .i64 2, .int .i64 1, .int .i64 2]] W fun e w' => e = .returned (.int .i64 0) ∧ Own w' g exEr ∧ Chg [g] W w' from by
    refine (bkmul_own s s s 4607182418800017408 0 gx 4 4 exEd 0 2 gy 2 2 exE2 0 2 g 2 2 exE0 0 2 2 2 1 W hs hs hs (by decide) (by decide) hX rfl (by omega) exEd_wds (by omega) (by omega) (by omega) z0 z2 hY rfl (by omega) exE2_wds (by omega) (by omega) (by omega) z0 z2 hO rfl (by omega) exE0_wds (by omega) (by omega) (by omega) z0 z2 (by omega) (by omega) (by omega) (fun e => (h1 e).elim) (fun e => (h2 e).elim) (fun e => (h1 e).elim) (fun e => (h2 e).elim)).mono ?_
    rintro e w' ⟨rfl, l', k1, k2, k3⟩
    rw [ex_bkmul k2] at k1
    exact ⟨rfl, k1, k3⟩)
  have HM1 := Lib.hid (HMu.out 1 (by omega))
  have HM9 := Lib.hid (HMu.out 9 (by omega))
  have HAl := Lib.hid (fun (A B : Option Addr) (W : World) (h : Row W A (f64s exEr)) (h' : Row W B (f64s exEr)) => show Calls Try.prog 12 #[.slice A 2 2, .slice B 2 2] W fun e w' => e = .returned (.bool true) ∧ Below W.heap.size W w' from
    rall_any A B 2 2 exEr exEr W exEr_wds exEr_wds h h' (by decide) (Alike.refl _))
  have HB0 := Lib.hid ((Below.refl w.heap.size w))
  clear z0 z2 HMu
  go_enter Try.func5, Try.ntmps5
  go_wp2_with fail
  refine (HD0.out _).mono ?_
  rintro e w1 ⟨g1, rfl, hO, hg, hb⟩
  have HB1 := Lib.hid (below_nx HB0.out hb)
  have HO1 := Lib.hid hO
  have Hg1 := Lib.hid hg
  clear hb hO hg
  go_wp2_with fail
  refine (HD0.out _).mono ?_
  rintro e w2 ⟨g2, rfl, hO, hg, hb⟩
  have HB2 := Lib.hid (below_nx HB1.out hb)
  have HP2 := Lib.hid (HO1.out.nxt hb)
  have HO2 := Lib.hid hO
  have Hg2 := Lib.hid (show g1 ≠ g2 ∧ w.heap.size ≤ g2 from by have := HO1.out.lt; have := HB1.out.size; omega)
  clear hb hO hg
  go_upto_region 2 with fail
  have HA3 := Lib.hid ((Blk.new w2 26 #[.slice (some ⟨g1, 0, none⟩) 2 2, .int .i64 0, .int .i64 2, .int .i64 1, .int .i64 2]).alloc (.cells #[.slice (some ⟨g2, 0, none⟩) 2 2, .int .i64 0, .int .i64 2, .int .i64 1, .int .i64 2] 26))
  have HD3 := Lib.hid (Blk.new_ (w2.alloc (.cells #[.slice (some ⟨g1, 0, none⟩) 2 2, .int .i64 0, .int .i64 2, .int .i64 1, .int .i64 2] 26)) 26 #[.slice (some ⟨g2, 0, none⟩) 2 2, .int .i64 0, .int .i64 2, .int .i64 1, .int .i64 2] (w2.heap.size + 1) (by simp))
  have HB3 := Lib.hid (below_al (below_al HB2.out (o := (.cells #[.slice (some ⟨g1, 0, none⟩) 2 2, .int .i64 0, .int .i64 2, .int .i64 1, .int .i64 2] 26))) (o := (.cells #[.slice (some ⟨g2, 0, none⟩) 2 2, .int .i64 0, .int .i64 2, .int .i64 1, .int .i64 2] 26)))
  have HP3 := Lib.hid ((HP2.out.nxt (below_one (o := (.cells #[.slice (some ⟨g1, 0, none⟩) 2 2, .int .i64 0, .int .i64 2, .int .i64 1, .int .i64 2] 26)))).nxt (below_one (o := (.cells #[.slice (some ⟨g2, 0, none⟩) 2 2, .int .i64 0, .int .i64 2, .int .i64 1, .int .i64 2] 26))))
  have HO3 := Lib.hid ((HO2.out.nxt (below_one (o := (.cells #[.slice (some ⟨g1, 0, none⟩) 2 2, .int .i64 0, .int .i64 2, .int .i64 1, .int .i64 2] 26)))).nxt (below_one (o := (.cells #[.slice (some ⟨g2, 0, none⟩) 2 2, .int .i64 0, .int .i64 2, .int .i64 1, .int .i64 2] 26))))
  have Hz := Lib.hid (show g1 < w2.heap.size ∧ g2 < w2.heap.size from ⟨HP2.out.lt, HO2.out.lt⟩)
  clear HB2 HP2 HO2 HO1 HB1 HB0
  generalize (w2.alloc (.cells #[.slice (some ⟨g1, 0, none⟩) 2 2, .int .i64 0, .int .i64 2, .int .i64 1, .int .i64 2] 26)).alloc (.cells #[.slice (some ⟨g2, 0, none⟩) 2 2, .int .i64 0, .int .i64 2, .int .i64 1, .int .i64 2] 26) = w3 at *
  generalize hz1 : w2.heap.size = z1 at *
  generalize hz2 : z1 + 1 = z2 at *
  have Hz2 := Lib.hid (show g1 < z1 ∧ g2 < z1 ∧ z1 < z2 from by have := Hz.out; omega)
  clear hz1 hz2 Hz
  have HL3 := Lib.hid (own_blk (Blk.new w3 23 (f64s exE4).toArray))
  have HB4 := Lib.hid (below_al HB3.out (o := .cells (f64s exE4).toArray 23))
  go_wp2_with fail
  refine (HD1.out _ _ HL3.out).mono ?_
  rintro e w4 ⟨g3, rfl, hO, hg, hb⟩
  have hb3 := below_nx (below_one (W := w3) (o := .cells (f64s exE4).toArray 23)) hb
  have HA4 := Lib.hid (HA3.out.nxt hb3)
  have HD4 := Lib.hid (HD3.out.nxt hb3)
  have HP4 := Lib.hid (HP3.out.nxt hb3)
  have HO4 := Lib.hid (HO3.out.nxt hb3)
  have HX4 := Lib.hid hO
  have HB5 := Lib.hid (below_nx HB4.out hb)
  have Hg3 := Lib.hid (show z2 < g3 from by have h1 := HD3.out.lt; have h2 : w3.heap.size ≤ (w3.alloc (.cells (f64s exE4).toArray 23)).heap.size := (by simp); omega)
  clear hb3 hb hO hg HL3 HB4 HA3 HD3 HP3 HO3 HB3
  have HL4 := Lib.hid (own_blk (Blk.new w4 23 (f64s exE2).toArray))
  have HB6 := Lib.hid (below_al HB5.out (o := .cells (f64s exE2).toArray 23))
  go_wp2_with fail
  refine (HD2.out _ _ HL4.out).mono ?_
  rintro e w5 ⟨g4, rfl, hO, hg, hb⟩
  have hb3 := below_nx (below_one (W := w4) (o := .cells (f64s exE2).toArray 23)) hb
  have HA5 := Lib.hid (HA4.out.nxt hb3)
  have HD5 := Lib.hid (HD4.out.nxt hb3)
  have HP5 := Lib.hid (HP4.out.nxt hb3)
  have HO5 := Lib.hid (HO4.out.nxt hb3)
  have HX5 := Lib.hid (HX4.out.nxt hb3)
  have HY5 := Lib.hid hO
  have HB7 := Lib.hid (below_nx HB6.out hb)
  have Hg4 := Lib.hid (show z2 < g4 from by have h1 := HD4.out.lt; have h2 : w4.heap.size ≤ (w4.alloc (.cells (f64s exE2).toArray 23)).heap.size := (by simp); omega)
  clear hb3 hb hO hg HL4 HB6 HA4 HD4 HP4 HO4 HX4 HB5
  go_upto_region 3 with fail
  have hba := below_one (W := w5) (o := (.cells #[.slice (some ⟨g3, 0, none⟩) 4 4, .int .i64 0, .int .i64 2, .int .i64 2, .int .i64 2] 26))
  have hbb := below_nx hba (below_one (o := (.cells #[.slice (some ⟨g4, 0, none⟩) 2 2, .int .i64 0, .int .i64 2, .int .i64 1, .int .i64 2] 26)))
  have HX6 := Lib.hid ((Blk.new w5 26 #[.slice (some ⟨g3, 0, none⟩) 4 4, .int .i64 0, .int .i64 2, .int .i64 2, .int .i64 2]).alloc (.cells #[.slice (some ⟨g4, 0, none⟩) 2 2, .int .i64 0, .int .i64 2, .int .i64 1, .int .i64 2] 26))
  have HY6 := Lib.hid (Blk.new_ (w5.alloc (.cells #[.slice (some ⟨g3, 0, none⟩) 4 4, .int .i64 0, .int .i64 2, .int .i64 2, .int .i64 2] 26)) 26 #[.slice (some ⟨g4, 0, none⟩) 2 2, .int .i64 0, .int .i64 2, .int .i64 1, .int .i64 2] (w5.heap.size + 1) (by simp))
  have HB8 := Lib.hid (below_nx HB7.out hbb)
  have HA6 := Lib.hid (HA5.out.nxt hbb)
  have HD6 := Lib.hid (HD5.out.nxt hbb)
  have HP6 := Lib.hid (HP5.out.nxt hbb)
  have HO6 := Lib.hid (HO5.out.nxt hbb)
  have HU6 := Lib.hid (HX5.out.nxt hbb)
  have HV6 := Lib.hid (HY5.out.nxt hbb)
  have Hz5 := Lib.hid (show z2 < w5.heap.size from HD5.out.lt)
  clear hba hbb HA5 HD5 HP5 HO5 HX5 HY5 HB7
  generalize (w5.alloc (.cells #[.slice (some ⟨g3, 0, none⟩) 4 4, .int .i64 0, .int .i64 2, .int .i64 2, .int .i64 2] 26)).alloc (.cells #[.slice (some ⟨g4, 0, none⟩) 2 2, .int .i64 0, .int .i64 2, .int .i64 1, .int .i64 2] 26) = w6 at *
  generalize hz3 : w5.heap.size = z3 at *
  generalize hz4 : z3 + 1 = z4 at *
  have Hz6 := Lib.hid (show g1 < z1 ∧ g2 < z1 ∧ z1 < z2 ∧ z2 < z3 ∧ z3 < z4 ∧ g1 ≠ g2 ∧ z2 < g3 ∧ z2 < g4 ∧ w.heap.size ≤ g1 ∧ w.heap.size ≤ g2 from by have := Hz2.out; have := Hz5.out; have := Hg2.out; have := Hg3.out; have := Hg4.out; have := Hg1.out; omega)
  clear hz3 hz4 Hz5 Hz2 Hg1 Hg2 Hg3 Hg4
  obtain ⟨a0, a1, a2, a3, a4⟩ := cells5 HA6.out
  obtain ⟨x0, x1, x2, x3, x4⟩ := cells5 HX6.out
  obtain ⟨y0, y1, y2, y3, y4⟩ := cells5 HY6.out
  go_wp2_with fail
  refine (HM1.out g1 g3 g4 _ HP6.out HU6.out HV6.out (by have := Hz6.out; omega) (by have := Hz6.out; omega)).mono ?_
  rintro e w7 ⟨rfl, ho, hc⟩
  have n1 : ∀ k, g1 ≠ k → k ∉ [g1] := fun k h => by simp; omega
  have HA7 := Lib.hid (hc.blk (n1 _ (by have := Hz6.out; omega)) HA6.out)
  have HD7 := Lib.hid (hc.blk (n1 _ (by have := Hz6.out; omega)) HD6.out)
  have HX7 := Lib.hid (hc.blk (n1 _ (by have := Hz6.out; omega)) HX6.out)
  have HY7 := Lib.hid (hc.blk (n1 _ (by have := Hz6.out; omega)) HY6.out)
  have HP7 := Lib.hid ho
  have HO7 := Lib.hid (hc.own (n1 _ (by have := Hz6.out; omega)) HO6.out)
  have HU7 := Lib.hid (hc.own (n1 _ (by have := Hz6.out; omega)) HU6.out)
  have HV7 := Lib.hid (hc.own (n1 _ (by have := Hz6.out; omega)) HV6.out)
  have HB9 := Lib.hid (hc.below HB8.out HB8.out.size (by intro x hx; simp at hx; subst hx; have := Hz6.out; omega))
  clear ho hc n1 a0 a1 a2 a3 a4 x0 x1 x2 x3 x4 y0 y1 y2 y3 y4 HA6 HD6 HX6 HY6 HP6 HO6 HU6 HV6 HB8
  obtain ⟨d0, d1, d2, d3, d4⟩ := cells5 HD7.out
  obtain ⟨x0, x1, x2, x3, x4⟩ := cells5 HX7.out
  obtain ⟨y0, y1, y2, y3, y4⟩ := cells5 HY7.out
  go_wp2_with fail
  refine (HM9.out g2 g3 g4 _ HO7.out HU7.out HV7.out (by have := Hz6.out; omega) (by have := Hz6.out; omega)).mono ?_
  rintro e w8 ⟨rfl, ho, hc⟩
  have n1 : ∀ k, g2 ≠ k → k ∉ [g2] := fun k h => by simp; omega
  have HA8 := Lib.hid (hc.blk (n1 _ (by have := Hz6.out; omega)) HA7.out)
  have HD8 := Lib.hid (hc.blk (n1 _ (by have := Hz6.out; omega)) HD7.out)
  have HO8 := Lib.hid ho
  have HP8 := Lib.hid (hc.own (n1 _ (by have := Hz6.out; omega)) HP7.out)
  have HBa := Lib.hid (hc.below HB9.out HB9.out.size (by intro x hx; simp at hx; subst hx; have := Hz6.out; omega))
  clear ho hc n1 d0 d1 d2 d3 d4 x0 x1 x2 x3 x4 y0 y1 y2 y3 y4 HA7 HD7 HX7 HY7 HP7 HO7 HU7 HV7 HB9
  obtain ⟨a0, a1, a2, a3, a4⟩ := cells5 HA8.out
  go_wp2_with fail
  have HR1 := Lib.hid (HP8.out.nxt (below_one (o := (.cells (f64s exEr).toArray 23)))).row
  have HR2 := Lib.hid (own_blk (Blk.new w8 23 (f64s exEr).toArray)).row
  have HBb := Lib.hid (below_al HBa.out (o := (.cells (f64s exEr).toArray 23)))
  have HA9 := Lib.hid (HA8.out.alloc (.cells (f64s exEr).toArray 23))
  have HD9 := Lib.hid (HD8.out.alloc (.cells (f64s exEr).toArray 23))
  have HO9 := Lib.hid (HO8.out.nxt (below_one (o := (.cells (f64s exEr).toArray 23))))
  refine (HAl.out _ _ _ HR1.out HR2.out).mono ?_
  rintro e w9 ⟨rfl, hb⟩
  have HBc := Lib.hid (below_nx HBb.out hb)
  have HR3 := Lib.hid (HR1.out.below hb)
  have HR4 := Lib.hid (HO9.out.nxt hb).row
  have HAa := Lib.hid (HA9.out.nxt hb)
  have HDa := Lib.hid (HD9.out.nxt hb)
  clear hb a0 a1 a2 a3 a4 HA8 HD8 HO8 HP8 HBa HBb HA9 HD9 HO9 HR1 HR2
  obtain ⟨a0, a1, a2, a3, a4⟩ := cells5 HAa.out
  obtain ⟨d0, d1, d2, d3, d4⟩ := cells5 HDa.out
  go_wp2_with fail
  refine (HAl.out _ _ _ HR4.out HR3.out).mono ?_
  rintro e wa ⟨rfl, hb⟩
  have HBd := Lib.hid (below_nx HBc.out hb)
  clear hb a0 a1 a2 a3 a4 d0 d1 d2 d3 d4
  go_wp2_with fail
  go_ret
  exact ⟨rfl, HBd.out⟩
end Go.Proofs.Ytbeefnekblepfaa
