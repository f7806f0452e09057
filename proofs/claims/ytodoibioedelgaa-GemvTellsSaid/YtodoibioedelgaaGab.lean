/-
GemvTells, by cases. Conditions: as each says.
-/
import Derived.Test.YtodoibioedelgaaZGt0E
import Derived.Test.YtodoibioedelgaaZGt1E
import Derived.Test.YtodoibioedelgaaZGt2E
import Derived.Test.YtodoibioedelgaaZGt0K
import Derived.Test.YtodoibioedelgaaZGt1K
import Derived.Test.YtodoibioedelgaaZGt2K
set_option linter.unusedVariables false
set_option linter.unusedSimpArgs false
set_option linter.unnecessarySimpa false
namespace Go.Proofs.Ytodoibioedelgaa
open Go.RowKit
attribute [local go_sem ↓] Go.wp_at_zero Go.wp_at_succ

theorem tab_len2 {l T : List Nat} {o R C L N : Nat} (h : Tab l o R C L N T) (hN : R * C = N) : T.length = N := by rw [← hN]; exact h.1
theorem gt_n20 {R C N : Nat} (h : R ≤ 20 ∧ C ≤ 20) (hN : R * C = N) : N < 1048576 := by
  have h1 : R * C ≤ 20 * 20 := Nat.mul_le_mul h.1 h.2
  omega

theorem gt_err0 (kd : Int) (a b : Nat) (Am : Option Addr) (nm cm : Nat) (lm : List Nat) (mo mr mk ml : Int) (Ax : Option Addr) (nx cx : Nat) (lx : List Nat) (xo xk xi : Int) (A : Option Addr) (n c : Nat) (l : List Nat) (off k inc : Int) (one : Int) (E r0 c0 : Int) (w : World) (hAm : Row w Am (f64s lm)) (hAx : Row w Ax (f64s lx)) (hA : Row w A (f64s l)) (hWm : Wds lm) (hWx : Wds lx) (hW : Wds l) (hlm : lm.length = nm) (hlx : lx.length = nx) (hl : l.length = n) (hnm : nm ≤ 1000) (hnx : nx ≤ 1000) (hn : n ≤ 1000) (hG : greatB nm mr mk = false) (hLx : longB nx xk = false) (hLy : longB n k = false) (ho1 : (one == 1) = false ∨ n = 0) (ho2 : (one == 2) = false ∨ n = 0) (hrc : (kd = 1 ∧ r0 = mk ∧ c0 = mr) ∨ (kd ≠ 1 ∧ r0 = mr ∧ c0 = mk)) (hE : E ≠ 0)
    (hF : ∀ (W : World) (gw cw gm cm9 gx cx9 : Nat), gm ≠ gw → gx ≠ gw → Own W gw l → Own W gm lm → Own W gx lx → Calls Try.prog 36 #[mat (some ⟨gm, 0, none⟩) nm cm9 mo mr mk ml, vec (some ⟨gx, 0, none⟩) nx cx9 xo xk xi, vec (some ⟨gw, 0, none⟩) n cw off k inc, .int .i64 c0, .int .i64 r0] W fun e w' => e = .returned (.int .i64 E) ∧ Below W.heap.size W w')
    (hCk : ∀ W, Calls Try.prog 15 #[mat Am nm cm mo mr mk ml, .int .i64 r0, .int .i64 c0, vec Ax nx cx xo xk xi, vec A n c off k inc, .int .i64 0] W fun e w' => e = .returned (.int .i64 E) ∧ Below W.heap.size W w') :
    Calls Try.prog 3 #[.int .i64 kd, .float .f64 a, mat Am nm cm mo mr mk ml, vec Ax nx cx xo xk xi, .float .f64 b, vec A n c off k inc, .int .i64 one] w fun e w' => e = .returned (.bool true) ∧ Below w.heap.size w w' := by
  refine gemvTells_err0 kd a b Am nm cm lm mo mr mk ml Ax nx cx lx xo xk xi A n c l off k inc one E r0 c0 w hAm hAx hA hWm hWx hW hlm hlx hl hnm hnx hn hG hLx hLy ho1 ho2 hrc ?_ ?_ ?_ hCk hE
  · rintro e0 W gw cw gm cm9 gx cx9 g1 g2 h1 h2 h3
    obtain ⟨_, rfl, rfl⟩ := hrc.resolve_left (fun h => by have := h.1; omega)
    exact gvmul_err a b (some ⟨gm, 0, none⟩) nm cm9 mo r0 c0 ml (some ⟨gx, 0, none⟩) nx cx9 xo xk xi (some ⟨gw, 0, none⟩) n cw off k inc E W hE (fun W' hb => hF W' gw cw gm cm9 gx cx9 g1 g2 (h1.nxt hb) (h2.nxt hb) (h3.nxt hb))
  · rintro e1 W gw cw gm cm9 gx cx9 g1 g2 h1 h2 h3
    obtain ⟨_, rfl, rfl⟩ := hrc.resolve_right (fun h => h.1 e1)
    exact gvmult_err a b (some ⟨gm, 0, none⟩) nm cm9 mo c0 r0 ml (some ⟨gx, 0, none⟩) nx cx9 xo xk xi (some ⟨gw, 0, none⟩) n cw off k inc E W hE (fun W' hb => hF W' gw cw gm cm9 gx cx9 g1 g2 (h1.nxt hb) (h2.nxt hb) (h3.nxt hb))
  · rintro ⟨_, e1⟩ W gw cw gm cm9 gx cx9 g1 g2 h1 h2 h3
    obtain ⟨_, rfl, rfl⟩ := hrc.resolve_left (fun h => e1 h.1)
    exact gvabs_err (some ⟨gm, 0, none⟩) nm cm9 mo r0 c0 ml (some ⟨gx, 0, none⟩) nx cx9 xo xk xi (some ⟨gw, 0, none⟩) n cw off k inc E W hE (fun W' hb => hF W' gw cw gm cm9 gx cx9 g1 g2 (h1.nxt hb) (h2.nxt hb) (h3.nxt hb))

theorem gt_err1 (kd : Int) (a b : Nat) (Am : Option Addr) (nm cm : Nat) (lm : List Nat) (mo mr mk ml : Int) (Ax : Option Addr) (nx cx : Nat) (lx : List Nat) (xo xk xi : Int) (A : Option Addr) (n c : Nat) (l : List Nat) (off k inc : Int) (E r0 c0 : Int) (w : World) (hAm : Row w Am (f64s lm)) (hAx : Row w Ax (f64s lx)) (hA : Row w A (f64s l)) (hWm : Wds lm) (hWx : Wds lx) (hW : Wds l) (hlm : lm.length = nm) (hlx : lx.length = nx) (hl : l.length = n) (hnm : nm ≤ 1000) (hnx : nx ≤ 1000) (hn : n ≤ 1000) (hG : greatB nm mr mk = false) (hLx : longB nx xk = false) (hLy : longB n k = false) (hn0 : 0 < n) (hrc : (kd = 1 ∧ r0 = mk ∧ c0 = mr) ∨ (kd ≠ 1 ∧ r0 = mr ∧ c0 = mk)) (hE : E ≠ 0)
    (hF : ∀ (W : World) (gw cw gx cx9 : Nat), gx ≠ gw → Own W gw l → Own W gx lx → Calls Try.prog 36 #[mat (some ⟨gw, 0, none⟩) n cw mo mr mk ml, vec (some ⟨gx, 0, none⟩) nx cx9 xo xk xi, vec (some ⟨gw, 0, none⟩) n cw off k inc, .int .i64 c0, .int .i64 r0] W fun e w' => e = .returned (.int .i64 E) ∧ Below W.heap.size W w')
    (hCk : ∀ W, Calls Try.prog 15 #[mat A n c mo mr mk ml, .int .i64 r0, .int .i64 c0, vec Ax nx cx xo xk xi, vec A n c off k inc, .int .i64 1] W fun e w' => e = .returned (.int .i64 E) ∧ Below W.heap.size W w') :
    Calls Try.prog 3 #[.int .i64 kd, .float .f64 a, mat Am nm cm mo mr mk ml, vec Ax nx cx xo xk xi, .float .f64 b, vec A n c off k inc, .int .i64 1] w fun e w' => e = .returned (.bool true) ∧ Below w.heap.size w w' := by
  refine gemvTells_err1 kd a b Am nm cm lm mo mr mk ml Ax nx cx lx xo xk xi A n c l off k inc E r0 c0 w hAm hAx hA hWm hWx hW hlm hlx hl hnm hnx hn hG hLx hLy hn0 hrc ?_ ?_ ?_ hCk hE
  · rintro e0 W gw cw gx cx9 g2 h1 h3
    obtain ⟨_, rfl, rfl⟩ := hrc.resolve_left (fun h => by have := h.1; omega)
    exact gvmul_err a b (some ⟨gw, 0, none⟩) n cw mo r0 c0 ml (some ⟨gx, 0, none⟩) nx cx9 xo xk xi (some ⟨gw, 0, none⟩) n cw off k inc E W hE (fun W' hb => hF W' gw cw gx cx9 g2 (h1.nxt hb) (h3.nxt hb))
  · rintro e1 W gw cw gx cx9 g2 h1 h3
    obtain ⟨_, rfl, rfl⟩ := hrc.resolve_right (fun h => h.1 e1)
    exact gvmult_err a b (some ⟨gw, 0, none⟩) n cw mo c0 r0 ml (some ⟨gx, 0, none⟩) nx cx9 xo xk xi (some ⟨gw, 0, none⟩) n cw off k inc E W hE (fun W' hb => hF W' gw cw gx cx9 g2 (h1.nxt hb) (h3.nxt hb))
  · rintro ⟨_, e1⟩ W gw cw gx cx9 g2 h1 h3
    obtain ⟨_, rfl, rfl⟩ := hrc.resolve_left (fun h => e1 h.1)
    exact gvabs_err (some ⟨gw, 0, none⟩) n cw mo r0 c0 ml (some ⟨gx, 0, none⟩) nx cx9 xo xk xi (some ⟨gw, 0, none⟩) n cw off k inc E W hE (fun W' hb => hF W' gw cw gx cx9 g2 (h1.nxt hb) (h3.nxt hb))

theorem gt_err2 (kd : Int) (a b : Nat) (Am : Option Addr) (nm cm : Nat) (lm : List Nat) (mo mr mk ml : Int) (Ax : Option Addr) (nx cx : Nat) (lx : List Nat) (xo xk xi : Int) (A : Option Addr) (n c : Nat) (l : List Nat) (off k inc : Int) (E r0 c0 : Int) (w : World) (hAm : Row w Am (f64s lm)) (hAx : Row w Ax (f64s lx)) (hA : Row w A (f64s l)) (hWm : Wds lm) (hWx : Wds lx) (hW : Wds l) (hlm : lm.length = nm) (hlx : lx.length = nx) (hl : l.length = n) (hnm : nm ≤ 1000) (hnx : nx ≤ 1000) (hn : n ≤ 1000) (hG : greatB nm mr mk = false) (hLx : longB nx xk = false) (hLy : longB n k = false) (hn0 : 0 < n) (hrc : (kd = 1 ∧ r0 = mk ∧ c0 = mr) ∨ (kd ≠ 1 ∧ r0 = mr ∧ c0 = mk)) (hE : E ≠ 0)
    (hF : ∀ (W : World) (gw cw gm cm9 : Nat), gm ≠ gw → Own W gw l → Own W gm lm → Calls Try.prog 36 #[mat (some ⟨gm, 0, none⟩) nm cm9 mo mr mk ml, vec (some ⟨gw, 0, none⟩) n cw xo xk xi, vec (some ⟨gw, 0, none⟩) n cw off k inc, .int .i64 c0, .int .i64 r0] W fun e w' => e = .returned (.int .i64 E) ∧ Below W.heap.size W w')
    (hCk : ∀ W, Calls Try.prog 15 #[mat Am nm cm mo mr mk ml, .int .i64 r0, .int .i64 c0, vec A n c xo xk xi, vec A n c off k inc, .int .i64 2] W fun e w' => e = .returned (.int .i64 E) ∧ Below W.heap.size W w') :
    Calls Try.prog 3 #[.int .i64 kd, .float .f64 a, mat Am nm cm mo mr mk ml, vec Ax nx cx xo xk xi, .float .f64 b, vec A n c off k inc, .int .i64 2] w fun e w' => e = .returned (.bool true) ∧ Below w.heap.size w w' := by
  refine gemvTells_err2 kd a b Am nm cm lm mo mr mk ml Ax nx cx lx xo xk xi A n c l off k inc E r0 c0 w hAm hAx hA hWm hWx hW hlm hlx hl hnm hnx hn hG hLx hLy hn0 hrc ?_ ?_ ?_ hCk hE
  · rintro e0 W gw cw gm cm9 g1 h1 h2
    obtain ⟨_, rfl, rfl⟩ := hrc.resolve_left (fun h => by have := h.1; omega)
    exact gvmul_err a b (some ⟨gm, 0, none⟩) nm cm9 mo r0 c0 ml (some ⟨gw, 0, none⟩) n cw xo xk xi (some ⟨gw, 0, none⟩) n cw off k inc E W hE (fun W' hb => hF W' gw cw gm cm9 g1 (h1.nxt hb) (h2.nxt hb))
  · rintro e1 W gw cw gm cm9 g1 h1 h2
    obtain ⟨_, rfl, rfl⟩ := hrc.resolve_right (fun h => h.1 e1)
    exact gvmult_err a b (some ⟨gm, 0, none⟩) nm cm9 mo c0 r0 ml (some ⟨gw, 0, none⟩) n cw xo xk xi (some ⟨gw, 0, none⟩) n cw off k inc E W hE (fun W' hb => hF W' gw cw gm cm9 g1 (h1.nxt hb) (h2.nxt hb))
  · rintro ⟨_, e1⟩ W gw cw gm cm9 g1 h1 h2
    obtain ⟨_, rfl, rfl⟩ := hrc.resolve_left (fun h => e1 h.1)
    exact gvabs_err (some ⟨gm, 0, none⟩) nm cm9 mo r0 c0 ml (some ⟨gw, 0, none⟩) n cw xo xk xi (some ⟨gw, 0, none⟩) n cw off k inc E W hE (fun W' hb => hF W' gw cw gm cm9 g1 (h1.nxt hb) (h2.nxt hb))

theorem gt_ok00 (a b : Nat) (Am : Option Addr) (nm cm : Nat) (lm : List Nat) (Ax : Option Addr) (nx cx : Nat) (lx : List Nat) (A : Option Addr) (n c : Nat) (l : List Nat) (one : Int) (om L ox ix o i K C : Nat) (w : World) (hAm : Row w Am (f64s lm)) (hAx : Row w Ax (f64s lx)) (hA : Row w A (f64s l)) (hWm : Wds lm) (hWx : Wds lx) (hW : Wds l) (hlm : lm.length = nm) (hlx : lx.length = nx) (hl : l.length = n) (hnm : nm ≤ 1000) (hnx : nx ≤ 1000) (hn : n ≤ 1000) (hG : greatB nm (K : Int) (C : Int) = false) (hLx : longB nx (C : Int) = false) (hLy : longB n (K : Int) = false) (ho1 : (one == 1) = false ∨ n = 0) (ho2 : (one == 2) = false ∨ n = 0) (ha : a < 18446744073709551616) (hb0 : b < 18446744073709551616) (hKb : K ≤ 60) (hMb : K ≤ 20 ∧ C ≤ 20)
    (hi1 : 1 ≤ i) (hr : K = 0 ∨ o + (K - 1) * i < n) (hL1 : 1 ≤ L) (hRL : K ≤ L) (hmr : K = 0 ∨ C = 0 ∨ om + (C - 1) * L + (K - 1) < nm) (hix : 1 ≤ ix) (hxr : C = 0 ∨ ox + (C - 1) * ix < nx) (homI : I64 om) (hLI : I64 L) (hoxI : I64 ox) (hixI : I64 ix) (hoI : I64 o) (hiI : I64 i) :
    Calls Try.prog 3 #[.int .i64 0, .float .f64 a, mat Am nm cm om K C L, vec Ax nx cx ox C ix, .float .f64 b, vec A n c o K i, .int .i64 one] w fun e w' => e = .returned (.bool true) ∧ Below w.heap.size w w' :=
  gemvTells_ok0 0 a b Am nm cm lm Ax nx cx lx A n c l one om L ox ix o i K K C C (MulQ a b l o i lm om C L lx ox ix) (fun T => RMulQ a b T C (lst lx ox ix C) (lst l o i K)) (K : Int) (C : Int) w hAm hAx hA hWm hWx hW hlm hlx hl hnm hnx hn hG hLx hLy ho1 ho2 (.inr ⟨by omega, rfl, rfl⟩)
    (fun _ W gw cw gm cm9 gx cx9 g1 g2 h1 h2 h3 => by
    have hm1 : ∀ W', Below W.heap.size W W' → ∀ W2, Below W'.heap.size W' W2 → Calls Try.prog 73 #[mat (some ⟨gw, 0, none⟩) n cw o 1 K i, mat (some ⟨gm, 0, none⟩) nm cm9 om K C L] W2 fun e w' => e = .returned (.bool false) ∧ Below W2.heap.size W2 w' := fun W' hb W2 hbw => by
      have hb2 := below_nx hb hbw
      exact (by
      have := meet_own gw gm cw cm9 l lm (o : Int) 1 (K : Int) (i : Int) (om : Int) (K : Int) (C : Int) (L : Int) W2 (h1.nxt hb2) (h2.nxt hb2) (by omega) hoI (by unfold I64; omega) (by unfold I64; omega) hiI (by omega) homI (by unfold I64; omega) (by unfold I64; omega) hLI
      rw [show decide (gw = gm) = false from decide_eq_false (fun e => g1 e.symm), Bool.and_false, Bool.false_and, hl, hlm] at this
      exact this)
    have hm2 : ∀ W', Below W.heap.size W W' → ∀ W2, Below W'.heap.size W' W2 → Calls Try.prog 73 #[mat (some ⟨gw, 0, none⟩) n cw o 1 K i, mat (some ⟨gx, 0, none⟩) nx cx9 ox 1 C ix] W2 fun e w' => e = .returned (.bool false) ∧ Below W2.heap.size W2 w' := fun W' hb W2 hbw => by
      have hb2 := below_nx hb hbw
      exact (by
      have := meet_own gw gx cw cx9 l lx (o : Int) 1 (K : Int) (i : Int) (ox : Int) 1 (C : Int) (ix : Int) W2 (h1.nxt hb2) (h3.nxt hb2) (by omega) hoI (by unfold I64; omega) (by unfold I64; omega) hiI (by omega) hoxI (by unfold I64; omega) (by unfold I64; omega) hixI
      rw [show decide (gw = gx) = false from decide_eq_false (fun e => g2 e.symm), Bool.and_false, Bool.false_and, hl, hlx] at this
      exact this)
    exact gvmul_ok a b gw cw n l o K i gm cm9 nm lm om C L gx cx9 nx lx ox ix W h1 hl (by omega) hi1 hr h2 hlm (by omega) hL1 hRL hmr hWm h3 hlx (by omega) hix hxr hWx homI hLI hoxI hixI (by omega) (by omega) (fun e => (g1 e).elim) (fun e => (g2 e).elim) (fun W' hb => gvfits_ok (some ⟨gm, 0, none⟩) nm cm9 om K C L (some ⟨gx, 0, none⟩) nx cx9 ox C ix (some ⟨gw, 0, none⟩) n cw o K i W' (by omega) homI (by unfold I64; omega) (by unfold I64; omega) hLI (by omega) hoxI (by unfold I64; omega) hixI (by omega) hoI (by unfold I64; omega) hiI (by rw [mat_right hL1 hRL hmr, vec_right hix hxr, vec_right hi1 hr]; rfl) (hm1 W' hb) (hm2 W' hb))) (fun _ W N gt T B1 B2 d1 d2 hN hT h1 h2 h3 => rgmul_any a b K C gt N N T B1 C d1 _ B2 K d2 _ W h1 (tab_len2 hT hN) (gt_n20 hMb hN) hN (by omega) (by omega) (tab_wds hT hN hWm) h2 (lst_length _ _ _ _) (wds_lst2 hWx _ _ _) h3 (lst_length _ _ _ _) (by omega) (by omega) (Nat.le_refl _) (Nat.le_refl _))
    (fun e => absurd e (by omega)) (fun e => absurd e (by omega))
    (fun e => absurd rfl e.1) (fun e => absurd rfl e.1)
    (fun W => rcheck_0 Am nm cm om K C L Ax nx cx ox C ix A n c o K i _ _ _ _ _ _ W (by omega) homI (by unfold I64; omega) (by unfold I64; omega) hLI (by omega) hoxI (by unfold I64; omega) hixI (by omega) hoI (by unfold I64; omega) hiI (by rw [mat_right hL1 hRL hmr, vec_right hix hxr, vec_right hi1 hr]; rfl) (fun W => mspan_any Am nm cm om K C L W (by omega) (by omega) (by omega) hmr) (fun W => vspan_any Ax nx cx ox C ix W (by omega) (by omega) hxr) (fun W => vspan_any A n c o K i W (by omega) (by omega) hr))
    (fun N T hN hT q r r' hq h h' => ⟨mul_same ha hb0 hW hWm hWx (tab_wds hT hN hWm) hT hN hq hq h h', h.lt ha hb0 hW hWm hWx, h'.lt ha hb0 (tab_wds hT hN hWm) (wds_lst2 hWx _ _ _) (wds_lst2 hW _ _ _)⟩)
    hKb hMb (by omega) hi1 hr hmr hxr

theorem gt_ok01 (a b : Nat) (Am : Option Addr) (nm cm : Nat) (lm : List Nat) (Ax : Option Addr) (nx cx : Nat) (lx : List Nat) (A : Option Addr) (n c : Nat) (l : List Nat) (one : Int) (om L ox ix o i K R : Nat) (w : World) (hAm : Row w Am (f64s lm)) (hAx : Row w Ax (f64s lx)) (hA : Row w A (f64s l)) (hWm : Wds lm) (hWx : Wds lx) (hW : Wds l) (hlm : lm.length = nm) (hlx : lx.length = nx) (hl : l.length = n) (hnm : nm ≤ 1000) (hnx : nx ≤ 1000) (hn : n ≤ 1000) (hG : greatB nm (R : Int) (K : Int) = false) (hLx : longB nx (R : Int) = false) (hLy : longB n (K : Int) = false) (ho1 : (one == 1) = false ∨ n = 0) (ho2 : (one == 2) = false ∨ n = 0) (ha : a < 18446744073709551616) (hb0 : b < 18446744073709551616) (hKb : K ≤ 60) (hMb : R ≤ 20 ∧ K ≤ 20)
    (hi1 : 1 ≤ i) (hr : K = 0 ∨ o + (K - 1) * i < n) (hL1 : 1 ≤ L) (hRL : R ≤ L) (hmr : R = 0 ∨ K = 0 ∨ om + (K - 1) * L + (R - 1) < nm) (hix : 1 ≤ ix) (hxr : R = 0 ∨ ox + (R - 1) * ix < nx) (homI : I64 om) (hLI : I64 L) (hoxI : I64 ox) (hixI : I64 ix) (hoI : I64 o) (hiI : I64 i) :
    Calls Try.prog 3 #[.int .i64 1, .float .f64 a, mat Am nm cm om R K L, vec Ax nx cx ox R ix, .float .f64 b, vec A n c o K i, .int .i64 one] w fun e w' => e = .returned (.bool true) ∧ Below w.heap.size w w' :=
  gemvTells_ok0 1 a b Am nm cm lm Ax nx cx lx A n c l one om L ox ix o i K R K R (TurnQ a b l o i lm om R L lx ox ix) (fun T => RTurnQ a b T R K (lst lx ox ix R) (lst l o i K)) (K : Int) (R : Int) w hAm hAx hA hWm hWx hW hlm hlx hl hnm hnx hn hG hLx hLy ho1 ho2 (.inl ⟨rfl, rfl, rfl⟩)
    (fun e => absurd e (by omega)) (fun e => absurd e (by omega))
    (fun _ W gw cw gm cm9 gx cx9 g1 g2 h1 h2 h3 => by
    have hm1 : ∀ W', Below W.heap.size W W' → ∀ W2, Below W'.heap.size W' W2 → Calls Try.prog 73 #[mat (some ⟨gw, 0, none⟩) n cw o 1 K i, mat (some ⟨gm, 0, none⟩) nm cm9 om R K L] W2 fun e w' => e = .returned (.bool false) ∧ Below W2.heap.size W2 w' := fun W' hb W2 hbw => by
      have hb2 := below_nx hb hbw
      exact (by
      have := meet_own gw gm cw cm9 l lm (o : Int) 1 (K : Int) (i : Int) (om : Int) (R : Int) (K : Int) (L : Int) W2 (h1.nxt hb2) (h2.nxt hb2) (by omega) hoI (by unfold I64; omega) (by unfold I64; omega) hiI (by omega) homI (by unfold I64; omega) (by unfold I64; omega) hLI
      rw [show decide (gw = gm) = false from decide_eq_false (fun e => g1 e.symm), Bool.and_false, Bool.false_and, hl, hlm] at this
      exact this)
    have hm2 : ∀ W', Below W.heap.size W W' → ∀ W2, Below W'.heap.size W' W2 → Calls Try.prog 73 #[mat (some ⟨gw, 0, none⟩) n cw o 1 K i, mat (some ⟨gx, 0, none⟩) nx cx9 ox 1 R ix] W2 fun e w' => e = .returned (.bool false) ∧ Below W2.heap.size W2 w' := fun W' hb W2 hbw => by
      have hb2 := below_nx hb hbw
      exact (by
      have := meet_own gw gx cw cx9 l lx (o : Int) 1 (K : Int) (i : Int) (ox : Int) 1 (R : Int) (ix : Int) W2 (h1.nxt hb2) (h3.nxt hb2) (by omega) hoI (by unfold I64; omega) (by unfold I64; omega) hiI (by omega) hoxI (by unfold I64; omega) (by unfold I64; omega) hixI
      rw [show decide (gw = gx) = false from decide_eq_false (fun e => g2 e.symm), Bool.and_false, Bool.false_and, hl, hlx] at this
      exact this)
    exact gvmult_ok a b gw cw n l o K i gm cm9 nm lm om R L gx cx9 nx lx ox ix W h1 hl (by omega) hi1 hr (fun e => (g1 e).elim) (fun e => (g2 e).elim) h2 hlm (by omega) hL1 hRL hmr hWm h3 hlx (by omega) hix hxr hWx homI hLI hoxI hixI (by omega) (by omega) (fun e => (g1 e).elim) (fun e => (g2 e).elim) (fun W' hb => gvfits_ok (some ⟨gm, 0, none⟩) nm cm9 om R K L (some ⟨gx, 0, none⟩) nx cx9 ox R ix (some ⟨gw, 0, none⟩) n cw o K i W' (by omega) homI (by unfold I64; omega) (by unfold I64; omega) hLI (by omega) hoxI (by unfold I64; omega) hixI (by omega) hoI (by unfold I64; omega) hiI (by rw [mat_right hL1 hRL hmr, vec_right hix hxr, vec_right hi1 hr]; rfl) (hm1 W' hb) (hm2 W' hb))) (fun _ W N gt T B1 B2 d1 d2 hN hT h1 h2 h3 => rgmult_any a b R K gt N N T B1 R d1 _ B2 K d2 _ W h1 (tab_len2 hT hN) (gt_n20 hMb hN) hN (by omega) (by omega) (tab_wds hT hN hWm) h2 (lst_length _ _ _ _) (wds_lst2 hWx _ _ _) h3 (lst_length _ _ _ _) (by omega) (by omega) rfl (Nat.le_refl _))
    (fun e => absurd rfl e.2) (fun e => absurd rfl e.2)
    (fun W => rcheck_0 Am nm cm om R K L Ax nx cx ox R ix A n c o K i _ _ _ _ _ _ W (by omega) homI (by unfold I64; omega) (by unfold I64; omega) hLI (by omega) hoxI (by unfold I64; omega) hixI (by omega) hoI (by unfold I64; omega) hiI (by rw [mat_right hL1 hRL hmr, vec_right hix hxr, vec_right hi1 hr]; rfl) (fun W => mspan_any Am nm cm om R K L W (by omega) (by omega) (by omega) hmr) (fun W => vspan_any Ax nx cx ox R ix W (by omega) (by omega) hxr) (fun W => vspan_any A n c o K i W (by omega) (by omega) hr))
    (fun N T hN hT q r r' hq h h' => ⟨turn_same ha hb0 hW hT hN hq hq h h', h.lt, h'.lt⟩)
    hKb hMb (by omega) hi1 hr hmr hxr

theorem gt_ok02 (kd : Int) (hk0 : kd ≠ 0) (hk1 : kd ≠ 1) (a b : Nat) (Am : Option Addr) (nm cm : Nat) (lm : List Nat) (Ax : Option Addr) (nx cx : Nat) (lx : List Nat) (A : Option Addr) (n c : Nat) (l : List Nat) (one : Int) (om L ox ix o i K C : Nat) (w : World) (hAm : Row w Am (f64s lm)) (hAx : Row w Ax (f64s lx)) (hA : Row w A (f64s l)) (hWm : Wds lm) (hWx : Wds lx) (hW : Wds l) (hlm : lm.length = nm) (hlx : lx.length = nx) (hl : l.length = n) (hnm : nm ≤ 1000) (hnx : nx ≤ 1000) (hn : n ≤ 1000) (hG : greatB nm (K : Int) (C : Int) = false) (hLx : longB nx (C : Int) = false) (hLy : longB n (K : Int) = false) (ho1 : (one == 1) = false ∨ n = 0) (ho2 : (one == 2) = false ∨ n = 0) (ha : a < 18446744073709551616) (hb0 : b < 18446744073709551616) (hKb : K ≤ 60) (hMb : K ≤ 20 ∧ C ≤ 20)
    (hi1 : 1 ≤ i) (hr : K = 0 ∨ o + (K - 1) * i < n) (hL1 : 1 ≤ L) (hRL : K ≤ L) (hmr : K = 0 ∨ C = 0 ∨ om + (C - 1) * L + (K - 1) < nm) (hix : 1 ≤ ix) (hxr : C = 0 ∨ ox + (C - 1) * ix < nx) (homI : I64 om) (hLI : I64 L) (hoxI : I64 ox) (hixI : I64 ix) (hoI : I64 o) (hiI : I64 i) :
    Calls Try.prog 3 #[.int .i64 kd, .float .f64 a, mat Am nm cm om K C L, vec Ax nx cx ox C ix, .float .f64 b, vec A n c o K i, .int .i64 one] w fun e w' => e = .returned (.bool true) ∧ Below w.heap.size w w' :=
  gemvTells_ok0 kd a b Am nm cm lm Ax nx cx lx A n c l one om L ox ix o i K K C C (AbsQ l o i lm om C L lx ox ix) (fun T => RAbsQ T C (lst lx ox ix C) (lst l o i K)) (K : Int) (C : Int) w hAm hAx hA hWm hWx hW hlm hlx hl hnm hnx hn hG hLx hLy ho1 ho2 (.inr ⟨hk1, rfl, rfl⟩)
    (fun e => absurd e hk0) (fun e => absurd e hk0)
    (fun e => absurd e hk1) (fun e => absurd e hk1)
    (fun _ W gw cw gm cm9 gx cx9 g1 g2 h1 h2 h3 => by
    have hm1 : ∀ W', Below W.heap.size W W' → ∀ W2, Below W'.heap.size W' W2 → Calls Try.prog 73 #[mat (some ⟨gw, 0, none⟩) n cw o 1 K i, mat (some ⟨gm, 0, none⟩) nm cm9 om K C L] W2 fun e w' => e = .returned (.bool false) ∧ Below W2.heap.size W2 w' := fun W' hb W2 hbw => by
      have hb2 := below_nx hb hbw
      exact (by
      have := meet_own gw gm cw cm9 l lm (o : Int) 1 (K : Int) (i : Int) (om : Int) (K : Int) (C : Int) (L : Int) W2 (h1.nxt hb2) (h2.nxt hb2) (by omega) hoI (by unfold I64; omega) (by unfold I64; omega) hiI (by omega) homI (by unfold I64; omega) (by unfold I64; omega) hLI
      rw [show decide (gw = gm) = false from decide_eq_false (fun e => g1 e.symm), Bool.and_false, Bool.false_and, hl, hlm] at this
      exact this)
    have hm2 : ∀ W', Below W.heap.size W W' → ∀ W2, Below W'.heap.size W' W2 → Calls Try.prog 73 #[mat (some ⟨gw, 0, none⟩) n cw o 1 K i, mat (some ⟨gx, 0, none⟩) nx cx9 ox 1 C ix] W2 fun e w' => e = .returned (.bool false) ∧ Below W2.heap.size W2 w' := fun W' hb W2 hbw => by
      have hb2 := below_nx hb hbw
      exact (by
      have := meet_own gw gx cw cx9 l lx (o : Int) 1 (K : Int) (i : Int) (ox : Int) 1 (C : Int) (ix : Int) W2 (h1.nxt hb2) (h3.nxt hb2) (by omega) hoI (by unfold I64; omega) (by unfold I64; omega) hiI (by omega) hoxI (by unfold I64; omega) (by unfold I64; omega) hixI
      rw [show decide (gw = gx) = false from decide_eq_false (fun e => g2 e.symm), Bool.and_false, Bool.false_and, hl, hlx] at this
      exact this)
    exact gvabs_ok gw cw n l o K i gm cm9 nm lm om C L gx cx9 nx lx ox ix W h1 hl (by omega) hi1 hr h2 hlm (by omega) hL1 hRL hmr hWm h3 hlx (by omega) hix hxr hWx homI hLI hoxI hixI (by omega) (by omega) (fun e => (g1 e).elim) (fun e => (g2 e).elim) (fun W' hb => gvfits_ok (some ⟨gm, 0, none⟩) nm cm9 om K C L (some ⟨gx, 0, none⟩) nx cx9 ox C ix (some ⟨gw, 0, none⟩) n cw o K i W' (by omega) homI (by unfold I64; omega) (by unfold I64; omega) hLI (by omega) hoxI (by unfold I64; omega) hixI (by omega) hoI (by unfold I64; omega) hiI (by rw [mat_right hL1 hRL hmr, vec_right hix hxr, vec_right hi1 hr]; rfl) (hm1 W' hb) (hm2 W' hb))) (fun _ W N gt T B1 B2 d1 d2 hN hT h1 h2 h3 => rgabs_any K C gt N N T B1 C d1 _ B2 K d2 _ W h1 (tab_len2 hT hN) (gt_n20 hMb hN) hN (by omega) (by omega) (tab_wds hT hN hWm) h2 (lst_length _ _ _ _) (wds_lst2 hWx _ _ _) h3 (lst_length _ _ _ _) (by omega) (by omega) (Nat.le_refl _) (Nat.le_refl _))
    (fun W => rcheck_0 Am nm cm om K C L Ax nx cx ox C ix A n c o K i _ _ _ _ _ _ W (by omega) homI (by unfold I64; omega) (by unfold I64; omega) hLI (by omega) hoxI (by unfold I64; omega) hixI (by omega) hoI (by unfold I64; omega) hiI (by rw [mat_right hL1 hRL hmr, vec_right hix hxr, vec_right hi1 hr]; rfl) (fun W => mspan_any Am nm cm om K C L W (by omega) (by omega) (by omega) hmr) (fun W => vspan_any Ax nx cx ox C ix W (by omega) (by omega) hxr) (fun W => vspan_any A n c o K i W (by omega) (by omega) hr))
    (fun N T hN hT q r r' hq h h' => ⟨abs_same hW hT hN hq hq h h', h.lt hW, h'.lt (wds_lst2 hW _ _ _)⟩)
    hKb hMb (by omega) hi1 hr hmr hxr

theorem gt_ok10 (a b : Nat) (Am : Option Addr) (nm cm : Nat) (lm : List Nat) (Ax : Option Addr) (nx cx : Nat) (lx : List Nat) (A : Option Addr) (n c : Nat) (l : List Nat) (om L ox ix o i K C : Nat) (w : World) (hAm : Row w Am (f64s lm)) (hAx : Row w Ax (f64s lx)) (hA : Row w A (f64s l)) (hWm : Wds lm) (hWx : Wds lx) (hW : Wds l) (hlm : lm.length = nm) (hlx : lx.length = nx) (hl : l.length = n) (hnm : nm ≤ 1000) (hnx : nx ≤ 1000) (hn : n ≤ 1000) (hG : greatB nm (K : Int) (C : Int) = false) (hLx : longB nx (C : Int) = false) (hLy : longB n (K : Int) = false) (hn0 : 0 < n) (ha : a < 18446744073709551616) (hb0 : b < 18446744073709551616) (hKb : K ≤ 60) (hMb : K ≤ 20 ∧ C ≤ 20)
    (hi1 : 1 ≤ i) (hr : K = 0 ∨ o + (K - 1) * i < n) (hL1 : 1 ≤ L) (hRL : K ≤ L) (hmr : K = 0 ∨ C = 0 ∨ om + (C - 1) * L + (K - 1) < n) (hix : 1 ≤ ix) (hxr : C = 0 ∨ ox + (C - 1) * ix < nx) (homI : I64 om) (hLI : I64 L) (hoxI : I64 ox) (hixI : I64 ix) (hoI : I64 o) (hiI : I64 i) (hsp : spB (vsA o K) (vsB o K i) (msA om K C) (msB om K C L) = false) :
    Calls Try.prog 3 #[.int .i64 0, .float .f64 a, mat Am nm cm om K C L, vec Ax nx cx ox C ix, .float .f64 b, vec A n c o K i, .int .i64 1] w fun e w' => e = .returned (.bool true) ∧ Below w.heap.size w w' :=
  gemvTells_ok1 0 a b Am nm cm lm Ax nx cx lx A n c l om L ox ix o i K K C C (MulQ a b l o i l om C L lx ox ix) (fun T => RMulQ a b T C (lst lx ox ix C) (lst l o i K)) (K : Int) (C : Int) w hAm hAx hA hWm hWx hW hlm hlx hl hnm hnx hn hG hLx hLy hn0 (.inr ⟨by omega, rfl, rfl⟩)
    (fun _ W gw cw gx cx9 g2 h1 h3 => by
    have hm1 : ∀ W', Below W.heap.size W W' → ∀ W2, Below W'.heap.size W' W2 → Calls Try.prog 73 #[mat (some ⟨gw, 0, none⟩) n cw o 1 K i, mat (some ⟨gw, 0, none⟩) n cw om K C L] W2 fun e w' => e = .returned (.bool false) ∧ Below W2.heap.size W2 w' := fun W' hb W2 hbw => by
      have hb2 := below_nx hb hbw
      exact (by
      have := meet_own gw gw cw cw l l (o : Int) 1 (K : Int) (i : Int) (om : Int) (K : Int) (C : Int) (L : Int) W2 (h1.nxt hb2) (h1.nxt hb2) (by omega) hoI (by unfold I64; omega) (by unfold I64; omega) hiI (by omega) homI (by unfold I64; omega) (by unfold I64; omega) hLI
      rw [show decide (gw = gw) = true from decide_eq_true rfl, Bool.and_true, hl, met_m hi1 hr hL1 hRL hmr, hsp] at this
      exact this)
    have hm2 : ∀ W', Below W.heap.size W W' → ∀ W2, Below W'.heap.size W' W2 → Calls Try.prog 73 #[mat (some ⟨gw, 0, none⟩) n cw o 1 K i, mat (some ⟨gx, 0, none⟩) nx cx9 ox 1 C ix] W2 fun e w' => e = .returned (.bool false) ∧ Below W2.heap.size W2 w' := fun W' hb W2 hbw => by
      have hb2 := below_nx hb hbw
      exact (by
      have := meet_own gw gx cw cx9 l lx (o : Int) 1 (K : Int) (i : Int) (ox : Int) 1 (C : Int) (ix : Int) W2 (h1.nxt hb2) (h3.nxt hb2) (by omega) hoI (by unfold I64; omega) (by unfold I64; omega) hiI (by omega) hoxI (by unfold I64; omega) (by unfold I64; omega) hixI
      rw [show decide (gw = gx) = false from decide_eq_false (fun e => g2 e.symm), Bool.and_false, Bool.false_and, hl, hlx] at this
      exact this)
    exact gvmul_ok a b gw cw n l o K i gw cw n l om C L gx cx9 nx lx ox ix W h1 hl (by omega) hi1 hr h1 hl (by omega) hL1 hRL hmr hW h3 hlx (by omega) hix hxr hWx homI hLI hoxI hixI (by omega) (by omega) (fun _ => sp_far_m hsp) (fun e => (g2 e).elim) (fun W' hb => gvfits_ok (some ⟨gw, 0, none⟩) n cw om K C L (some ⟨gx, 0, none⟩) nx cx9 ox C ix (some ⟨gw, 0, none⟩) n cw o K i W' (by omega) homI (by unfold I64; omega) (by unfold I64; omega) hLI (by omega) hoxI (by unfold I64; omega) hixI (by omega) hoI (by unfold I64; omega) hiI (by rw [mat_right hL1 hRL hmr, vec_right hix hxr, vec_right hi1 hr]; rfl) (hm1 W' hb) (hm2 W' hb))) (fun _ W N gt T B1 B2 d1 d2 hN hT h1 h2 h3 => rgmul_any a b K C gt N N T B1 C d1 _ B2 K d2 _ W h1 (tab_len2 hT hN) (gt_n20 hMb hN) hN (by omega) (by omega) (tab_wds hT hN hW) h2 (lst_length _ _ _ _) (wds_lst2 hWx _ _ _) h3 (lst_length _ _ _ _) (by omega) (by omega) (Nat.le_refl _) (Nat.le_refl _))
    (fun e => absurd e (by omega)) (fun e => absurd e (by omega))
    (fun e => absurd rfl e.1) (fun e => absurd rfl e.1)
    (fun W => rcheck_1f A n c om K C L Ax nx cx ox C ix A n c o K i _ _ _ _ _ _ W (by omega) homI (by unfold I64; omega) (by unfold I64; omega) hLI (by omega) hoxI (by unfold I64; omega) hixI (by omega) hoI (by unfold I64; omega) hiI (by rw [mat_right hL1 hRL hmr, vec_right hix hxr, vec_right hi1 hr]; rfl) (fun W => mspan_any A n c om K C L W (by omega) (by omega) (by omega) hmr) (fun W => vspan_any Ax nx cx ox C ix W (by omega) (by omega) hxr) (fun W => vspan_any A n c o K i W (by omega) (by omega) hr) hsp)
    (fun N T hN hT q r r' hq h h' => ⟨mul_same ha hb0 hW hW hWx (tab_wds hT hN hW) hT hN hq hq h h', h.lt ha hb0 hW hW hWx, h'.lt ha hb0 (tab_wds hT hN hW) (wds_lst2 hWx _ _ _) (wds_lst2 hW _ _ _)⟩)
    hKb hMb (by omega) hi1 hr hmr hxr

theorem gt_ok11 (a b : Nat) (Am : Option Addr) (nm cm : Nat) (lm : List Nat) (Ax : Option Addr) (nx cx : Nat) (lx : List Nat) (A : Option Addr) (n c : Nat) (l : List Nat) (om L ox ix o i K R : Nat) (w : World) (hAm : Row w Am (f64s lm)) (hAx : Row w Ax (f64s lx)) (hA : Row w A (f64s l)) (hWm : Wds lm) (hWx : Wds lx) (hW : Wds l) (hlm : lm.length = nm) (hlx : lx.length = nx) (hl : l.length = n) (hnm : nm ≤ 1000) (hnx : nx ≤ 1000) (hn : n ≤ 1000) (hG : greatB nm (R : Int) (K : Int) = false) (hLx : longB nx (R : Int) = false) (hLy : longB n (K : Int) = false) (hn0 : 0 < n) (ha : a < 18446744073709551616) (hb0 : b < 18446744073709551616) (hKb : K ≤ 60) (hMb : R ≤ 20 ∧ K ≤ 20)
    (hi1 : 1 ≤ i) (hr : K = 0 ∨ o + (K - 1) * i < n) (hL1 : 1 ≤ L) (hRL : R ≤ L) (hmr : R = 0 ∨ K = 0 ∨ om + (K - 1) * L + (R - 1) < n) (hix : 1 ≤ ix) (hxr : R = 0 ∨ ox + (R - 1) * ix < nx) (homI : I64 om) (hLI : I64 L) (hoxI : I64 ox) (hixI : I64 ix) (hoI : I64 o) (hiI : I64 i) (hsp : spB (vsA o K) (vsB o K i) (msA om R K) (msB om R K L) = false) :
    Calls Try.prog 3 #[.int .i64 1, .float .f64 a, mat Am nm cm om R K L, vec Ax nx cx ox R ix, .float .f64 b, vec A n c o K i, .int .i64 1] w fun e w' => e = .returned (.bool true) ∧ Below w.heap.size w w' :=
  gemvTells_ok1 1 a b Am nm cm lm Ax nx cx lx A n c l om L ox ix o i K R K R (TurnQ a b l o i l om R L lx ox ix) (fun T => RTurnQ a b T R K (lst lx ox ix R) (lst l o i K)) (K : Int) (R : Int) w hAm hAx hA hWm hWx hW hlm hlx hl hnm hnx hn hG hLx hLy hn0 (.inl ⟨rfl, rfl, rfl⟩)
    (fun e => absurd e (by omega)) (fun e => absurd e (by omega))
    (fun _ W gw cw gx cx9 g2 h1 h3 => by
    have hm1 : ∀ W', Below W.heap.size W W' → ∀ W2, Below W'.heap.size W' W2 → Calls Try.prog 73 #[mat (some ⟨gw, 0, none⟩) n cw o 1 K i, mat (some ⟨gw, 0, none⟩) n cw om R K L] W2 fun e w' => e = .returned (.bool false) ∧ Below W2.heap.size W2 w' := fun W' hb W2 hbw => by
      have hb2 := below_nx hb hbw
      exact (by
      have := meet_own gw gw cw cw l l (o : Int) 1 (K : Int) (i : Int) (om : Int) (R : Int) (K : Int) (L : Int) W2 (h1.nxt hb2) (h1.nxt hb2) (by omega) hoI (by unfold I64; omega) (by unfold I64; omega) hiI (by omega) homI (by unfold I64; omega) (by unfold I64; omega) hLI
      rw [show decide (gw = gw) = true from decide_eq_true rfl, Bool.and_true, hl, met_m hi1 hr hL1 hRL hmr, hsp] at this
      exact this)
    have hm2 : ∀ W', Below W.heap.size W W' → ∀ W2, Below W'.heap.size W' W2 → Calls Try.prog 73 #[mat (some ⟨gw, 0, none⟩) n cw o 1 K i, mat (some ⟨gx, 0, none⟩) nx cx9 ox 1 R ix] W2 fun e w' => e = .returned (.bool false) ∧ Below W2.heap.size W2 w' := fun W' hb W2 hbw => by
      have hb2 := below_nx hb hbw
      exact (by
      have := meet_own gw gx cw cx9 l lx (o : Int) 1 (K : Int) (i : Int) (ox : Int) 1 (R : Int) (ix : Int) W2 (h1.nxt hb2) (h3.nxt hb2) (by omega) hoI (by unfold I64; omega) (by unfold I64; omega) hiI (by omega) hoxI (by unfold I64; omega) (by unfold I64; omega) hixI
      rw [show decide (gw = gx) = false from decide_eq_false (fun e => g2 e.symm), Bool.and_false, Bool.false_and, hl, hlx] at this
      exact this)
    exact gvmult_ok a b gw cw n l o K i gw cw n l om R L gx cx9 nx lx ox ix W h1 hl (by omega) hi1 hr (fun _ => rfl) (fun e => (g2 e).elim) h1 hl (by omega) hL1 hRL hmr hW h3 hlx (by omega) hix hxr hWx homI hLI hoxI hixI (by omega) (by omega) (fun _ => sp_far_m hsp) (fun e => (g2 e).elim) (fun W' hb => gvfits_ok (some ⟨gw, 0, none⟩) n cw om R K L (some ⟨gx, 0, none⟩) nx cx9 ox R ix (some ⟨gw, 0, none⟩) n cw o K i W' (by omega) homI (by unfold I64; omega) (by unfold I64; omega) hLI (by omega) hoxI (by unfold I64; omega) hixI (by omega) hoI (by unfold I64; omega) hiI (by rw [mat_right hL1 hRL hmr, vec_right hix hxr, vec_right hi1 hr]; rfl) (hm1 W' hb) (hm2 W' hb))) (fun _ W N gt T B1 B2 d1 d2 hN hT h1 h2 h3 => rgmult_any a b R K gt N N T B1 R d1 _ B2 K d2 _ W h1 (tab_len2 hT hN) (gt_n20 hMb hN) hN (by omega) (by omega) (tab_wds hT hN hW) h2 (lst_length _ _ _ _) (wds_lst2 hWx _ _ _) h3 (lst_length _ _ _ _) (by omega) (by omega) rfl (Nat.le_refl _))
    (fun e => absurd rfl e.2) (fun e => absurd rfl e.2)
    (fun W => rcheck_1f A n c om R K L Ax nx cx ox R ix A n c o K i _ _ _ _ _ _ W (by omega) homI (by unfold I64; omega) (by unfold I64; omega) hLI (by omega) hoxI (by unfold I64; omega) hixI (by omega) hoI (by unfold I64; omega) hiI (by rw [mat_right hL1 hRL hmr, vec_right hix hxr, vec_right hi1 hr]; rfl) (fun W => mspan_any A n c om R K L W (by omega) (by omega) (by omega) hmr) (fun W => vspan_any Ax nx cx ox R ix W (by omega) (by omega) hxr) (fun W => vspan_any A n c o K i W (by omega) (by omega) hr) hsp)
    (fun N T hN hT q r r' hq h h' => ⟨turn_same ha hb0 hW hT hN hq hq h h', h.lt, h'.lt⟩)
    hKb hMb (by omega) hi1 hr hmr hxr

theorem gt_ok12 (kd : Int) (hk0 : kd ≠ 0) (hk1 : kd ≠ 1) (a b : Nat) (Am : Option Addr) (nm cm : Nat) (lm : List Nat) (Ax : Option Addr) (nx cx : Nat) (lx : List Nat) (A : Option Addr) (n c : Nat) (l : List Nat) (om L ox ix o i K C : Nat) (w : World) (hAm : Row w Am (f64s lm)) (hAx : Row w Ax (f64s lx)) (hA : Row w A (f64s l)) (hWm : Wds lm) (hWx : Wds lx) (hW : Wds l) (hlm : lm.length = nm) (hlx : lx.length = nx) (hl : l.length = n) (hnm : nm ≤ 1000) (hnx : nx ≤ 1000) (hn : n ≤ 1000) (hG : greatB nm (K : Int) (C : Int) = false) (hLx : longB nx (C : Int) = false) (hLy : longB n (K : Int) = false) (hn0 : 0 < n) (ha : a < 18446744073709551616) (hb0 : b < 18446744073709551616) (hKb : K ≤ 60) (hMb : K ≤ 20 ∧ C ≤ 20)
    (hi1 : 1 ≤ i) (hr : K = 0 ∨ o + (K - 1) * i < n) (hL1 : 1 ≤ L) (hRL : K ≤ L) (hmr : K = 0 ∨ C = 0 ∨ om + (C - 1) * L + (K - 1) < n) (hix : 1 ≤ ix) (hxr : C = 0 ∨ ox + (C - 1) * ix < nx) (homI : I64 om) (hLI : I64 L) (hoxI : I64 ox) (hixI : I64 ix) (hoI : I64 o) (hiI : I64 i) (hsp : spB (vsA o K) (vsB o K i) (msA om K C) (msB om K C L) = false) :
    Calls Try.prog 3 #[.int .i64 kd, .float .f64 a, mat Am nm cm om K C L, vec Ax nx cx ox C ix, .float .f64 b, vec A n c o K i, .int .i64 1] w fun e w' => e = .returned (.bool true) ∧ Below w.heap.size w w' :=
  gemvTells_ok1 kd a b Am nm cm lm Ax nx cx lx A n c l om L ox ix o i K K C C (AbsQ l o i l om C L lx ox ix) (fun T => RAbsQ T C (lst lx ox ix C) (lst l o i K)) (K : Int) (C : Int) w hAm hAx hA hWm hWx hW hlm hlx hl hnm hnx hn hG hLx hLy hn0 (.inr ⟨hk1, rfl, rfl⟩)
    (fun e => absurd e hk0) (fun e => absurd e hk0)
    (fun e => absurd e hk1) (fun e => absurd e hk1)
    (fun _ W gw cw gx cx9 g2 h1 h3 => by
    have hm1 : ∀ W', Below W.heap.size W W' → ∀ W2, Below W'.heap.size W' W2 → Calls Try.prog 73 #[mat (some ⟨gw, 0, none⟩) n cw o 1 K i, mat (some ⟨gw, 0, none⟩) n cw om K C L] W2 fun e w' => e = .returned (.bool false) ∧ Below W2.heap.size W2 w' := fun W' hb W2 hbw => by
      have hb2 := below_nx hb hbw
      exact (by
      have := meet_own gw gw cw cw l l (o : Int) 1 (K : Int) (i : Int) (om : Int) (K : Int) (C : Int) (L : Int) W2 (h1.nxt hb2) (h1.nxt hb2) (by omega) hoI (by unfold I64; omega) (by unfold I64; omega) hiI (by omega) homI (by unfold I64; omega) (by unfold I64; omega) hLI
      rw [show decide (gw = gw) = true from decide_eq_true rfl, Bool.and_true, hl, met_m hi1 hr hL1 hRL hmr, hsp] at this
      exact this)
    have hm2 : ∀ W', Below W.heap.size W W' → ∀ W2, Below W'.heap.size W' W2 → Calls Try.prog 73 #[mat (some ⟨gw, 0, none⟩) n cw o 1 K i, mat (some ⟨gx, 0, none⟩) nx cx9 ox 1 C ix] W2 fun e w' => e = .returned (.bool false) ∧ Below W2.heap.size W2 w' := fun W' hb W2 hbw => by
      have hb2 := below_nx hb hbw
      exact (by
      have := meet_own gw gx cw cx9 l lx (o : Int) 1 (K : Int) (i : Int) (ox : Int) 1 (C : Int) (ix : Int) W2 (h1.nxt hb2) (h3.nxt hb2) (by omega) hoI (by unfold I64; omega) (by unfold I64; omega) hiI (by omega) hoxI (by unfold I64; omega) (by unfold I64; omega) hixI
      rw [show decide (gw = gx) = false from decide_eq_false (fun e => g2 e.symm), Bool.and_false, Bool.false_and, hl, hlx] at this
      exact this)
    exact gvabs_ok gw cw n l o K i gw cw n l om C L gx cx9 nx lx ox ix W h1 hl (by omega) hi1 hr h1 hl (by omega) hL1 hRL hmr hW h3 hlx (by omega) hix hxr hWx homI hLI hoxI hixI (by omega) (by omega) (fun _ => sp_far_m hsp) (fun e => (g2 e).elim) (fun W' hb => gvfits_ok (some ⟨gw, 0, none⟩) n cw om K C L (some ⟨gx, 0, none⟩) nx cx9 ox C ix (some ⟨gw, 0, none⟩) n cw o K i W' (by omega) homI (by unfold I64; omega) (by unfold I64; omega) hLI (by omega) hoxI (by unfold I64; omega) hixI (by omega) hoI (by unfold I64; omega) hiI (by rw [mat_right hL1 hRL hmr, vec_right hix hxr, vec_right hi1 hr]; rfl) (hm1 W' hb) (hm2 W' hb))) (fun _ W N gt T B1 B2 d1 d2 hN hT h1 h2 h3 => rgabs_any K C gt N N T B1 C d1 _ B2 K d2 _ W h1 (tab_len2 hT hN) (gt_n20 hMb hN) hN (by omega) (by omega) (tab_wds hT hN hW) h2 (lst_length _ _ _ _) (wds_lst2 hWx _ _ _) h3 (lst_length _ _ _ _) (by omega) (by omega) (Nat.le_refl _) (Nat.le_refl _))
    (fun W => rcheck_1f A n c om K C L Ax nx cx ox C ix A n c o K i _ _ _ _ _ _ W (by omega) homI (by unfold I64; omega) (by unfold I64; omega) hLI (by omega) hoxI (by unfold I64; omega) hixI (by omega) hoI (by unfold I64; omega) hiI (by rw [mat_right hL1 hRL hmr, vec_right hix hxr, vec_right hi1 hr]; rfl) (fun W => mspan_any A n c om K C L W (by omega) (by omega) (by omega) hmr) (fun W => vspan_any Ax nx cx ox C ix W (by omega) (by omega) hxr) (fun W => vspan_any A n c o K i W (by omega) (by omega) hr) hsp)
    (fun N T hN hT q r r' hq h h' => ⟨abs_same hW hT hN hq hq h h', h.lt hW, h'.lt (wds_lst2 hW _ _ _)⟩)
    hKb hMb (by omega) hi1 hr hmr hxr

theorem gt_ok20 (a b : Nat) (Am : Option Addr) (nm cm : Nat) (lm : List Nat) (Ax : Option Addr) (nx cx : Nat) (lx : List Nat) (A : Option Addr) (n c : Nat) (l : List Nat) (om L ox ix o i K C : Nat) (w : World) (hAm : Row w Am (f64s lm)) (hAx : Row w Ax (f64s lx)) (hA : Row w A (f64s l)) (hWm : Wds lm) (hWx : Wds lx) (hW : Wds l) (hlm : lm.length = nm) (hlx : lx.length = nx) (hl : l.length = n) (hnm : nm ≤ 1000) (hnx : nx ≤ 1000) (hn : n ≤ 1000) (hG : greatB nm (K : Int) (C : Int) = false) (hLx : longB nx (C : Int) = false) (hLy : longB n (K : Int) = false) (hn0 : 0 < n) (ha : a < 18446744073709551616) (hb0 : b < 18446744073709551616) (hKb : K ≤ 60) (hMb : K ≤ 20 ∧ C ≤ 20)
    (hi1 : 1 ≤ i) (hr : K = 0 ∨ o + (K - 1) * i < n) (hL1 : 1 ≤ L) (hRL : K ≤ L) (hmr : K = 0 ∨ C = 0 ∨ om + (C - 1) * L + (K - 1) < nm) (hix : 1 ≤ ix) (hxr : C = 0 ∨ ox + (C - 1) * ix < n) (homI : I64 om) (hLI : I64 L) (hoxI : I64 ox) (hixI : I64 ix) (hoI : I64 o) (hiI : I64 i) (hsp : spB (vsA o K) (vsB o K i) (vsA ox C) (vsB ox C ix) = false) :
    Calls Try.prog 3 #[.int .i64 0, .float .f64 a, mat Am nm cm om K C L, vec Ax nx cx ox C ix, .float .f64 b, vec A n c o K i, .int .i64 2] w fun e w' => e = .returned (.bool true) ∧ Below w.heap.size w w' :=
  gemvTells_ok2 0 a b Am nm cm lm Ax nx cx lx A n c l om L ox ix o i K K C C (MulQ a b l o i lm om C L l ox ix) (fun T => RMulQ a b T C (lst l ox ix C) (lst l o i K)) (K : Int) (C : Int) w hAm hAx hA hWm hWx hW hlm hlx hl hnm hnx hn hG hLx hLy hn0 (.inr ⟨by omega, rfl, rfl⟩)
    (fun _ W gw cw gm cm9 g1 h1 h2 => by
    have hm1 : ∀ W', Below W.heap.size W W' → ∀ W2, Below W'.heap.size W' W2 → Calls Try.prog 73 #[mat (some ⟨gw, 0, none⟩) n cw o 1 K i, mat (some ⟨gm, 0, none⟩) nm cm9 om K C L] W2 fun e w' => e = .returned (.bool false) ∧ Below W2.heap.size W2 w' := fun W' hb W2 hbw => by
      have hb2 := below_nx hb hbw
      exact (by
      have := meet_own gw gm cw cm9 l lm (o : Int) 1 (K : Int) (i : Int) (om : Int) (K : Int) (C : Int) (L : Int) W2 (h1.nxt hb2) (h2.nxt hb2) (by omega) hoI (by unfold I64; omega) (by unfold I64; omega) hiI (by omega) homI (by unfold I64; omega) (by unfold I64; omega) hLI
      rw [show decide (gw = gm) = false from decide_eq_false (fun e => g1 e.symm), Bool.and_false, Bool.false_and, hl, hlm] at this
      exact this)
    have hm2 : ∀ W', Below W.heap.size W W' → ∀ W2, Below W'.heap.size W' W2 → Calls Try.prog 73 #[mat (some ⟨gw, 0, none⟩) n cw o 1 K i, mat (some ⟨gw, 0, none⟩) n cw ox 1 C ix] W2 fun e w' => e = .returned (.bool false) ∧ Below W2.heap.size W2 w' := fun W' hb W2 hbw => by
      have hb2 := below_nx hb hbw
      exact (by
      have := meet_own gw gw cw cw l l (o : Int) 1 (K : Int) (i : Int) (ox : Int) 1 (C : Int) (ix : Int) W2 (h1.nxt hb2) (h1.nxt hb2) (by omega) hoI (by unfold I64; omega) (by unfold I64; omega) hiI (by omega) hoxI (by unfold I64; omega) (by unfold I64; omega) hixI
      rw [show decide (gw = gw) = true from decide_eq_true rfl, Bool.and_true, hl, met_x hi1 hr hix hxr, hsp] at this
      exact this)
    exact gvmul_ok a b gw cw n l o K i gm cm9 nm lm om C L gw cw n l ox ix W h1 hl (by omega) hi1 hr h2 hlm (by omega) hL1 hRL hmr hWm h1 hl (by omega) hix hxr hW homI hLI hoxI hixI (by omega) (by omega) (fun e => (g1 e).elim) (fun _ => sp_far_x hsp) (fun W' hb => gvfits_ok (some ⟨gm, 0, none⟩) nm cm9 om K C L (some ⟨gw, 0, none⟩) n cw ox C ix (some ⟨gw, 0, none⟩) n cw o K i W' (by omega) homI (by unfold I64; omega) (by unfold I64; omega) hLI (by omega) hoxI (by unfold I64; omega) hixI (by omega) hoI (by unfold I64; omega) hiI (by rw [mat_right hL1 hRL hmr, vec_right hix hxr, vec_right hi1 hr]; rfl) (hm1 W' hb) (hm2 W' hb))) (fun _ W N gt T B1 B2 d1 d2 hN hT h1 h2 h3 => rgmul_any a b K C gt N N T B1 C d1 _ B2 K d2 _ W h1 (tab_len2 hT hN) (gt_n20 hMb hN) hN (by omega) (by omega) (tab_wds hT hN hWm) h2 (lst_length _ _ _ _) (wds_lst2 hW _ _ _) h3 (lst_length _ _ _ _) (by omega) (by omega) (Nat.le_refl _) (Nat.le_refl _))
    (fun e => absurd e (by omega)) (fun e => absurd e (by omega))
    (fun e => absurd rfl e.1) (fun e => absurd rfl e.1)
    (fun W => rcheck_2f Am nm cm om K C L A n c ox C ix A n c o K i _ _ _ _ _ _ W (by omega) homI (by unfold I64; omega) (by unfold I64; omega) hLI (by omega) hoxI (by unfold I64; omega) hixI (by omega) hoI (by unfold I64; omega) hiI (by rw [mat_right hL1 hRL hmr, vec_right hix hxr, vec_right hi1 hr]; rfl) (fun W => mspan_any Am nm cm om K C L W (by omega) (by omega) (by omega) hmr) (fun W => vspan_any A n c ox C ix W (by omega) (by omega) hxr) (fun W => vspan_any A n c o K i W (by omega) (by omega) hr) hsp)
    (fun N T hN hT q r r' hq h h' => ⟨mul_same ha hb0 hW hWm hW (tab_wds hT hN hWm) hT hN hq hq h h', h.lt ha hb0 hW hWm hW, h'.lt ha hb0 (tab_wds hT hN hWm) (wds_lst2 hW _ _ _) (wds_lst2 hW _ _ _)⟩)
    hKb hMb (by omega) hi1 hr hmr hxr

theorem gt_ok21 (a b : Nat) (Am : Option Addr) (nm cm : Nat) (lm : List Nat) (Ax : Option Addr) (nx cx : Nat) (lx : List Nat) (A : Option Addr) (n c : Nat) (l : List Nat) (om L ox ix o i K R : Nat) (w : World) (hAm : Row w Am (f64s lm)) (hAx : Row w Ax (f64s lx)) (hA : Row w A (f64s l)) (hWm : Wds lm) (hWx : Wds lx) (hW : Wds l) (hlm : lm.length = nm) (hlx : lx.length = nx) (hl : l.length = n) (hnm : nm ≤ 1000) (hnx : nx ≤ 1000) (hn : n ≤ 1000) (hG : greatB nm (R : Int) (K : Int) = false) (hLx : longB nx (R : Int) = false) (hLy : longB n (K : Int) = false) (hn0 : 0 < n) (ha : a < 18446744073709551616) (hb0 : b < 18446744073709551616) (hKb : K ≤ 60) (hMb : R ≤ 20 ∧ K ≤ 20)
    (hi1 : 1 ≤ i) (hr : K = 0 ∨ o + (K - 1) * i < n) (hL1 : 1 ≤ L) (hRL : R ≤ L) (hmr : R = 0 ∨ K = 0 ∨ om + (K - 1) * L + (R - 1) < nm) (hix : 1 ≤ ix) (hxr : R = 0 ∨ ox + (R - 1) * ix < n) (homI : I64 om) (hLI : I64 L) (hoxI : I64 ox) (hixI : I64 ix) (hoI : I64 o) (hiI : I64 i) (hsp : spB (vsA o K) (vsB o K i) (vsA ox R) (vsB ox R ix) = false) :
    Calls Try.prog 3 #[.int .i64 1, .float .f64 a, mat Am nm cm om R K L, vec Ax nx cx ox R ix, .float .f64 b, vec A n c o K i, .int .i64 2] w fun e w' => e = .returned (.bool true) ∧ Below w.heap.size w w' :=
  gemvTells_ok2 1 a b Am nm cm lm Ax nx cx lx A n c l om L ox ix o i K R K R (TurnQ a b l o i lm om R L l ox ix) (fun T => RTurnQ a b T R K (lst l ox ix R) (lst l o i K)) (K : Int) (R : Int) w hAm hAx hA hWm hWx hW hlm hlx hl hnm hnx hn hG hLx hLy hn0 (.inl ⟨rfl, rfl, rfl⟩)
    (fun e => absurd e (by omega)) (fun e => absurd e (by omega))
    (fun _ W gw cw gm cm9 g1 h1 h2 => by
    have hm1 : ∀ W', Below W.heap.size W W' → ∀ W2, Below W'.heap.size W' W2 → Calls Try.prog 73 #[mat (some ⟨gw, 0, none⟩) n cw o 1 K i, mat (some ⟨gm, 0, none⟩) nm cm9 om R K L] W2 fun e w' => e = .returned (.bool false) ∧ Below W2.heap.size W2 w' := fun W' hb W2 hbw => by
      have hb2 := below_nx hb hbw
      exact (by
      have := meet_own gw gm cw cm9 l lm (o : Int) 1 (K : Int) (i : Int) (om : Int) (R : Int) (K : Int) (L : Int) W2 (h1.nxt hb2) (h2.nxt hb2) (by omega) hoI (by unfold I64; omega) (by unfold I64; omega) hiI (by omega) homI (by unfold I64; omega) (by unfold I64; omega) hLI
      rw [show decide (gw = gm) = false from decide_eq_false (fun e => g1 e.symm), Bool.and_false, Bool.false_and, hl, hlm] at this
      exact this)
    have hm2 : ∀ W', Below W.heap.size W W' → ∀ W2, Below W'.heap.size W' W2 → Calls Try.prog 73 #[mat (some ⟨gw, 0, none⟩) n cw o 1 K i, mat (some ⟨gw, 0, none⟩) n cw ox 1 R ix] W2 fun e w' => e = .returned (.bool false) ∧ Below W2.heap.size W2 w' := fun W' hb W2 hbw => by
      have hb2 := below_nx hb hbw
      exact (by
      have := meet_own gw gw cw cw l l (o : Int) 1 (K : Int) (i : Int) (ox : Int) 1 (R : Int) (ix : Int) W2 (h1.nxt hb2) (h1.nxt hb2) (by omega) hoI (by unfold I64; omega) (by unfold I64; omega) hiI (by omega) hoxI (by unfold I64; omega) (by unfold I64; omega) hixI
      rw [show decide (gw = gw) = true from decide_eq_true rfl, Bool.and_true, hl, met_x hi1 hr hix hxr, hsp] at this
      exact this)
    exact gvmult_ok a b gw cw n l o K i gm cm9 nm lm om R L gw cw n l ox ix W h1 hl (by omega) hi1 hr (fun e => (g1 e).elim) (fun _ => rfl) h2 hlm (by omega) hL1 hRL hmr hWm h1 hl (by omega) hix hxr hW homI hLI hoxI hixI (by omega) (by omega) (fun e => (g1 e).elim) (fun _ => sp_far_x hsp) (fun W' hb => gvfits_ok (some ⟨gm, 0, none⟩) nm cm9 om R K L (some ⟨gw, 0, none⟩) n cw ox R ix (some ⟨gw, 0, none⟩) n cw o K i W' (by omega) homI (by unfold I64; omega) (by unfold I64; omega) hLI (by omega) hoxI (by unfold I64; omega) hixI (by omega) hoI (by unfold I64; omega) hiI (by rw [mat_right hL1 hRL hmr, vec_right hix hxr, vec_right hi1 hr]; rfl) (hm1 W' hb) (hm2 W' hb))) (fun _ W N gt T B1 B2 d1 d2 hN hT h1 h2 h3 => rgmult_any a b R K gt N N T B1 R d1 _ B2 K d2 _ W h1 (tab_len2 hT hN) (gt_n20 hMb hN) hN (by omega) (by omega) (tab_wds hT hN hWm) h2 (lst_length _ _ _ _) (wds_lst2 hW _ _ _) h3 (lst_length _ _ _ _) (by omega) (by omega) rfl (Nat.le_refl _))
    (fun e => absurd rfl e.2) (fun e => absurd rfl e.2)
    (fun W => rcheck_2f Am nm cm om R K L A n c ox R ix A n c o K i _ _ _ _ _ _ W (by omega) homI (by unfold I64; omega) (by unfold I64; omega) hLI (by omega) hoxI (by unfold I64; omega) hixI (by omega) hoI (by unfold I64; omega) hiI (by rw [mat_right hL1 hRL hmr, vec_right hix hxr, vec_right hi1 hr]; rfl) (fun W => mspan_any Am nm cm om R K L W (by omega) (by omega) (by omega) hmr) (fun W => vspan_any A n c ox R ix W (by omega) (by omega) hxr) (fun W => vspan_any A n c o K i W (by omega) (by omega) hr) hsp)
    (fun N T hN hT q r r' hq h h' => ⟨turn_same ha hb0 hW hT hN hq hq h h', h.lt, h'.lt⟩)
    hKb hMb (by omega) hi1 hr hmr hxr

theorem gt_ok22 (kd : Int) (hk0 : kd ≠ 0) (hk1 : kd ≠ 1) (a b : Nat) (Am : Option Addr) (nm cm : Nat) (lm : List Nat) (Ax : Option Addr) (nx cx : Nat) (lx : List Nat) (A : Option Addr) (n c : Nat) (l : List Nat) (om L ox ix o i K C : Nat) (w : World) (hAm : Row w Am (f64s lm)) (hAx : Row w Ax (f64s lx)) (hA : Row w A (f64s l)) (hWm : Wds lm) (hWx : Wds lx) (hW : Wds l) (hlm : lm.length = nm) (hlx : lx.length = nx) (hl : l.length = n) (hnm : nm ≤ 1000) (hnx : nx ≤ 1000) (hn : n ≤ 1000) (hG : greatB nm (K : Int) (C : Int) = false) (hLx : longB nx (C : Int) = false) (hLy : longB n (K : Int) = false) (hn0 : 0 < n) (ha : a < 18446744073709551616) (hb0 : b < 18446744073709551616) (hKb : K ≤ 60) (hMb : K ≤ 20 ∧ C ≤ 20)
    (hi1 : 1 ≤ i) (hr : K = 0 ∨ o + (K - 1) * i < n) (hL1 : 1 ≤ L) (hRL : K ≤ L) (hmr : K = 0 ∨ C = 0 ∨ om + (C - 1) * L + (K - 1) < nm) (hix : 1 ≤ ix) (hxr : C = 0 ∨ ox + (C - 1) * ix < n) (homI : I64 om) (hLI : I64 L) (hoxI : I64 ox) (hixI : I64 ix) (hoI : I64 o) (hiI : I64 i) (hsp : spB (vsA o K) (vsB o K i) (vsA ox C) (vsB ox C ix) = false) :
    Calls Try.prog 3 #[.int .i64 kd, .float .f64 a, mat Am nm cm om K C L, vec Ax nx cx ox C ix, .float .f64 b, vec A n c o K i, .int .i64 2] w fun e w' => e = .returned (.bool true) ∧ Below w.heap.size w w' :=
  gemvTells_ok2 kd a b Am nm cm lm Ax nx cx lx A n c l om L ox ix o i K K C C (AbsQ l o i lm om C L l ox ix) (fun T => RAbsQ T C (lst l ox ix C) (lst l o i K)) (K : Int) (C : Int) w hAm hAx hA hWm hWx hW hlm hlx hl hnm hnx hn hG hLx hLy hn0 (.inr ⟨hk1, rfl, rfl⟩)
    (fun e => absurd e hk0) (fun e => absurd e hk0)
    (fun e => absurd e hk1) (fun e => absurd e hk1)
    (fun _ W gw cw gm cm9 g1 h1 h2 => by
    have hm1 : ∀ W', Below W.heap.size W W' → ∀ W2, Below W'.heap.size W' W2 → Calls Try.prog 73 #[mat (some ⟨gw, 0, none⟩) n cw o 1 K i, mat (some ⟨gm, 0, none⟩) nm cm9 om K C L] W2 fun e w' => e = .returned (.bool false) ∧ Below W2.heap.size W2 w' := fun W' hb W2 hbw => by
      have hb2 := below_nx hb hbw
      exact (by
      have := meet_own gw gm cw cm9 l lm (o : Int) 1 (K : Int) (i : Int) (om : Int) (K : Int) (C : Int) (L : Int) W2 (h1.nxt hb2) (h2.nxt hb2) (by omega) hoI (by unfold I64; omega) (by unfold I64; omega) hiI (by omega) homI (by unfold I64; omega) (by unfold I64; omega) hLI
      rw [show decide (gw = gm) = false from decide_eq_false (fun e => g1 e.symm), Bool.and_false, Bool.false_and, hl, hlm] at this
      exact this)
    have hm2 : ∀ W', Below W.heap.size W W' → ∀ W2, Below W'.heap.size W' W2 → Calls Try.prog 73 #[mat (some ⟨gw, 0, none⟩) n cw o 1 K i, mat (some ⟨gw, 0, none⟩) n cw ox 1 C ix] W2 fun e w' => e = .returned (.bool false) ∧ Below W2.heap.size W2 w' := fun W' hb W2 hbw => by
      have hb2 := below_nx hb hbw
      exact (by
      have := meet_own gw gw cw cw l l (o : Int) 1 (K : Int) (i : Int) (ox : Int) 1 (C : Int) (ix : Int) W2 (h1.nxt hb2) (h1.nxt hb2) (by omega) hoI (by unfold I64; omega) (by unfold I64; omega) hiI (by omega) hoxI (by unfold I64; omega) (by unfold I64; omega) hixI
      rw [show decide (gw = gw) = true from decide_eq_true rfl, Bool.and_true, hl, met_x hi1 hr hix hxr, hsp] at this
      exact this)
    exact gvabs_ok gw cw n l o K i gm cm9 nm lm om C L gw cw n l ox ix W h1 hl (by omega) hi1 hr h2 hlm (by omega) hL1 hRL hmr hWm h1 hl (by omega) hix hxr hW homI hLI hoxI hixI (by omega) (by omega) (fun e => (g1 e).elim) (fun _ => sp_far_x hsp) (fun W' hb => gvfits_ok (some ⟨gm, 0, none⟩) nm cm9 om K C L (some ⟨gw, 0, none⟩) n cw ox C ix (some ⟨gw, 0, none⟩) n cw o K i W' (by omega) homI (by unfold I64; omega) (by unfold I64; omega) hLI (by omega) hoxI (by unfold I64; omega) hixI (by omega) hoI (by unfold I64; omega) hiI (by rw [mat_right hL1 hRL hmr, vec_right hix hxr, vec_right hi1 hr]; rfl) (hm1 W' hb) (hm2 W' hb))) (fun _ W N gt T B1 B2 d1 d2 hN hT h1 h2 h3 => rgabs_any K C gt N N T B1 C d1 _ B2 K d2 _ W h1 (tab_len2 hT hN) (gt_n20 hMb hN) hN (by omega) (by omega) (tab_wds hT hN hWm) h2 (lst_length _ _ _ _) (wds_lst2 hW _ _ _) h3 (lst_length _ _ _ _) (by omega) (by omega) (Nat.le_refl _) (Nat.le_refl _))
    (fun W => rcheck_2f Am nm cm om K C L A n c ox C ix A n c o K i _ _ _ _ _ _ W (by omega) homI (by unfold I64; omega) (by unfold I64; omega) hLI (by omega) hoxI (by unfold I64; omega) hixI (by omega) hoI (by unfold I64; omega) hiI (by rw [mat_right hL1 hRL hmr, vec_right hix hxr, vec_right hi1 hr]; rfl) (fun W => mspan_any Am nm cm om K C L W (by omega) (by omega) (by omega) hmr) (fun W => vspan_any A n c ox C ix W (by omega) (by omega) hxr) (fun W => vspan_any A n c o K i W (by omega) (by omega) hr) hsp)
    (fun N T hN hT q r r' hq h h' => ⟨abs_same hW hT hN hq hq h h', h.lt hW, h'.lt (wds_lst2 hW _ _ _)⟩)
    hKb hMb (by omega) hi1 hr hmr hxr
end Go.Proofs.Ytodoibioedelgaa
/-
GemvTells, put together. Conditions: as each says.
-/
set_option linter.unusedVariables false
set_option linter.unusedSimpArgs false
set_option linter.unnecessarySimpa false
namespace Go.Proofs.Ytodoibioedelgaa
open Go.RowKit
attribute [local go_sem ↓] Go.wp_at_zero Go.wp_at_succ


set_option maxRecDepth 100000 in
theorem gt_case0 (kd : Int) (a b : Nat) (Am : Option Addr) (nm cm : Nat) (lm : List Nat) (mo mr mk ml : Int) (Ax : Option Addr) (nx cx : Nat) (lx : List Nat) (xo xk xi : Int) (A : Option Addr) (n c : Nat) (l : List Nat) (off k inc : Int) (one : Int) (r0 c0 : Int) (w : World) (hAm : Row w Am (f64s lm)) (hAx : Row w Ax (f64s lx)) (hA : Row w A (f64s l)) (hWm : Wds lm) (hWx : Wds lx) (hW : Wds l) (hlm : lm.length = nm) (hlx : lx.length = nx) (hl : l.length = n) (hnm : nm ≤ 1000) (hnx : nx ≤ 1000) (hn : n ≤ 1000) (hG : greatB nm mr mk = false) (hLx : longB nx xk = false) (hLy : longB n k = false) (ho1 : (one == 1) = false ∨ n = 0) (ho2 : (one == 2) = false ∨ n = 0) (hrc : (kd = 1 ∧ r0 = mk ∧ c0 = mr) ∨ (kd ≠ 1 ∧ r0 = mr ∧ c0 = mk)) (ha : a < 18446744073709551616) (hb0 : b < 18446744073709551616) (hmo : I64 mo) (hmr : I64 mr) (hmk : I64 mk) (hml : I64 ml) (hxo : I64 xo) (hxk : I64 xk) (hxi : I64 xi) (ho : I64 off) (hk : I64 k) (hi : I64 inc) (hm20 : mr ≤ 20 ∧ mk ≤ 20) (hx60 : xk ≤ 60) (hk60 : k ≤ 60) :
    Calls Try.prog 3 #[.int .i64 kd, .float .f64 a, mat Am nm cm mo mr mk ml, vec Ax nx cx xo xk xi, .float .f64 b, vec A n c off k inc, .int .i64 one] w fun e w' => e = .returned (.bool true) ∧ Below w.heap.size w w' := by
  cases hR : (matB nm mo mr mk ml && vecB nx xo xk xi && vecB n off k inc)
  · exact gt_err0 kd a b Am nm cm lm mo mr mk ml Ax nx cx lx xo xk xi A n c l off k inc one 1 r0 c0 w hAm hAx hA hWm hWx hW hlm hlx hl hnm hnx hn hG hLx hLy ho1 ho2 hrc (by omega)
      (fun W gw cw gm cm9 gx cx9 _ _ _ _ _ => gvfits_bad (some ⟨gm, 0, none⟩) nm cm9 mo mr mk ml (some ⟨gx, 0, none⟩) nx cx9 xo xk xi (some ⟨gw, 0, none⟩) n cw off k inc c0 r0 W (by omega) hmo hmr hmk hml (by omega) hxo hxk hxi (by omega) ho hk hi hR)
      (fun W => rcheck_bad Am nm cm mo mr mk ml Ax nx cx xo xk xi A n c off k inc r0 c0 0 W (by omega) hmo hmr hmk hml (by omega) hxo hxk hxi (by omega) ho hk hi hR)
  by_cases hs : xk = c0 ∧ k = r0
  · obtain ⟨rfl, rfl⟩ := hs
    have hR2 := hR
    simp only [Bool.and_eq_true] at hR
    obtain ⟨⟨g1, g2⟩, g3⟩ := hR
    obtain ⟨om, R, C, L, rfl, rfl, rfl, rfl, hL1, hRL, hmr2⟩ := mat_nat g1
    obtain ⟨ox, X, ix, rfl, rfl, rfl, hix, hxr⟩ := vec_nat g2
    obtain ⟨o, K, i, rfl, rfl, rfl, hi1, hr⟩ := vec_nat g3
    by_cases e1 : kd = 1
    · obtain ⟨_, d1, d2⟩ := hrc.resolve_right (fun h => h.1 e1)
      obtain rfl : K = C := by omega
      obtain rfl : X = R := by omega
      subst e1
      exact gt_ok01 a b Am nm cm lm Ax nx cx lx A n c l one om L ox ix o i K X w hAm hAx hA hWm hWx hW hlm hlx hl hnm hnx hn hG hLx hLy ho1 ho2 ha hb0 (by omega) (by omega) hi1 hr hL1 hRL hmr2 hix hxr hmo hml hxo hxi ho hi
    · obtain ⟨_, d1, d2⟩ := hrc.resolve_left (fun h => e1 h.1)
      obtain rfl : K = R := by omega
      obtain rfl : X = C := by omega
      by_cases e0 : kd = 0
      · subst e0
        exact gt_ok00 a b Am nm cm lm Ax nx cx lx A n c l one om L ox ix o i K X w hAm hAx hA hWm hWx hW hlm hlx hl hnm hnx hn hG hLx hLy ho1 ho2 ha hb0 (by omega) (by omega) hi1 hr hL1 hRL hmr2 hix hxr hmo hml hxo hxi ho hi
      · exact gt_ok02 kd e0 e1 a b Am nm cm lm Ax nx cx lx A n c l one om L ox ix o i K X w hAm hAx hA hWm hWx hW hlm hlx hl hnm hnx hn hG hLx hLy ho1 ho2 ha hb0 (by omega) (by omega) hi1 hr hL1 hRL hmr2 hix hxr hmo hml hxo hxi ho hi
  · exact gt_err0 kd a b Am nm cm lm mo mr mk ml Ax nx cx lx xo xk xi A n c l off k inc one 3 r0 c0 w hAm hAx hA hWm hWx hW hlm hlx hl hnm hnx hn hG hLx hLy ho1 ho2 hrc (by omega)
      (fun W gw cw gm cm9 gx cx9 _ _ _ _ _ => gvfits_size (some ⟨gm, 0, none⟩) nm cm9 mo mr mk ml (some ⟨gx, 0, none⟩) nx cx9 xo xk xi (some ⟨gw, 0, none⟩) n cw off k inc c0 r0 W (by omega) hmo hmr hmk hml (by omega) hxo hxk hxi (by omega) ho hk hi hR hs)
      (fun W => rcheck_size Am nm cm mo mr mk ml Ax nx cx xo xk xi A n c off k inc r0 c0 0 W (by omega) hmo hmr hmk hml (by omega) hxo hxk hxi (by omega) ho hk hi hR hs)

set_option maxRecDepth 100000 in
theorem gt_case1 (kd : Int) (a b : Nat) (Am : Option Addr) (nm cm : Nat) (lm : List Nat) (mo mr mk ml : Int) (Ax : Option Addr) (nx cx : Nat) (lx : List Nat) (xo xk xi : Int) (A : Option Addr) (n c : Nat) (l : List Nat) (off k inc : Int) (r0 c0 : Int) (w : World) (hAm : Row w Am (f64s lm)) (hAx : Row w Ax (f64s lx)) (hA : Row w A (f64s l)) (hWm : Wds lm) (hWx : Wds lx) (hW : Wds l) (hlm : lm.length = nm) (hlx : lx.length = nx) (hl : l.length = n) (hnm : nm ≤ 1000) (hnx : nx ≤ 1000) (hn : n ≤ 1000) (hG : greatB nm mr mk = false) (hLx : longB nx xk = false) (hLy : longB n k = false) (hn0 : 0 < n) (hrc : (kd = 1 ∧ r0 = mk ∧ c0 = mr) ∨ (kd ≠ 1 ∧ r0 = mr ∧ c0 = mk)) (ha : a < 18446744073709551616) (hb0 : b < 18446744073709551616) (hmo : I64 mo) (hmr : I64 mr) (hmk : I64 mk) (hml : I64 ml) (hxo : I64 xo) (hxk : I64 xk) (hxi : I64 xi) (ho : I64 off) (hk : I64 k) (hi : I64 inc) (hm20 : mr ≤ 20 ∧ mk ≤ 20) (hx60 : xk ≤ 60) (hk60 : k ≤ 60) :
    Calls Try.prog 3 #[.int .i64 kd, .float .f64 a, mat Am nm cm mo mr mk ml, vec Ax nx cx xo xk xi, .float .f64 b, vec A n c off k inc, .int .i64 1] w fun e w' => e = .returned (.bool true) ∧ Below w.heap.size w w' := by
  cases hR : (matB n mo mr mk ml && vecB nx xo xk xi && vecB n off k inc)
  · exact gt_err1 kd a b Am nm cm lm mo mr mk ml Ax nx cx lx xo xk xi A n c l off k inc 1 r0 c0 w hAm hAx hA hWm hWx hW hlm hlx hl hnm hnx hn hG hLx hLy hn0 hrc (by omega)
      (fun W gw cw gx cx9 _ _ _ => gvfits_bad (some ⟨gw, 0, none⟩) n cw mo mr mk ml (some ⟨gx, 0, none⟩) nx cx9 xo xk xi (some ⟨gw, 0, none⟩) n cw off k inc c0 r0 W (by omega) hmo hmr hmk hml (by omega) hxo hxk hxi (by omega) ho hk hi hR)
      (fun W => rcheck_bad A n c mo mr mk ml Ax nx cx xo xk xi A n c off k inc r0 c0 1 W (by omega) hmo hmr hmk hml (by omega) hxo hxk hxi (by omega) ho hk hi hR)
  by_cases hs : xk = c0 ∧ k = r0
  · obtain ⟨rfl, rfl⟩ := hs
    have hR2 := hR
    simp only [Bool.and_eq_true] at hR
    obtain ⟨⟨g1, g2⟩, g3⟩ := hR
    obtain ⟨om, R, C, L, rfl, rfl, rfl, rfl, hL1, hRL, hmr2⟩ := mat_nat g1
    obtain ⟨ox, X, ix, rfl, rfl, rfl, hix, hxr⟩ := vec_nat g2
    obtain ⟨o, K, i, rfl, rfl, rfl, hi1, hr⟩ := vec_nat g3
    cases hsp : spB (vsA o K) (vsB o K i) (msA om R C) (msB om R C L)
    · by_cases e1 : kd = 1
      · obtain ⟨_, d1, d2⟩ := hrc.resolve_right (fun h => h.1 e1)
        obtain rfl : K = C := by omega
        obtain rfl : X = R := by omega
        subst e1
        exact gt_ok11 a b Am nm cm lm Ax nx cx lx A n c l om L ox ix o i K X w hAm hAx hA hWm hWx hW hlm hlx hl hnm hnx hn hG hLx hLy hn0 ha hb0 (by omega) (by omega) hi1 hr hL1 hRL hmr2 hix hxr hmo hml hxo hxi ho hi hsp
      · obtain ⟨_, d1, d2⟩ := hrc.resolve_left (fun h => e1 h.1)
        obtain rfl : K = R := by omega
        obtain rfl : X = C := by omega
        by_cases e0 : kd = 0
        · subst e0
          exact gt_ok10 a b Am nm cm lm Ax nx cx lx A n c l om L ox ix o i K X w hAm hAx hA hWm hWx hW hlm hlx hl hnm hnx hn hG hLx hLy hn0 ha hb0 (by omega) (by omega) hi1 hr hL1 hRL hmr2 hix hxr hmo hml hxo hxi ho hi hsp
        · exact gt_ok12 kd e0 e1 a b Am nm cm lm Ax nx cx lx A n c l om L ox ix o i K X w hAm hAx hA hWm hWx hW hlm hlx hl hnm hnx hn hG hLx hLy hn0 ha hb0 (by omega) (by omega) hi1 hr hL1 hRL hmr2 hix hxr hmo hml hxo hxi ho hi hsp
    · refine gt_err1 kd a b Am nm cm lm om R C L Ax nx cx lx ox X ix A n c l o K i 2 K X w hAm hAx hA hWm hWx hW hlm hlx hl hnm hnx hn hG hLx hLy hn0 hrc (by omega) (fun W gw cw gx cx9 g2' h1 h3 => ?_)
        (fun W => rcheck_1t A n c om R C L Ax nx cx ox X ix A n c o K i _ _ _ _ _ _ W (by omega) hmo hmr hmk hml (by omega) hxo hxk hxi (by omega) ho hk hi hR2 (fun W => mspan_any A n c om R C L W (by omega) (by omega) (by omega) hmr2) (fun W => vspan_any Ax nx cx ox X ix W (by omega) (by omega) hxr) (fun W => vspan_any A n c o K i W (by omega) (by omega) hr) hsp)
      exact gvfits_m1 (some ⟨gw, 0, none⟩) n cw om R C L (some ⟨gx, 0, none⟩) nx cx9 ox X ix (some ⟨gw, 0, none⟩) n cw o K i W (by omega) hmo hmr hmk hml (by omega) hxo hxk hxi (by omega) ho hk hi hR2 false (fun W2 hb2 => by
          have := meet_own gw gw cw cw l l (o : Int) 1 (K : Int) (i : Int) (om : Int) (R : Int) (C : Int) (L : Int) W2 (h1.nxt hb2) (h1.nxt hb2) (by omega) ho (by unfold I64; omega) hk hi (by omega) hmo hmr hmk hml
          rw [show decide (gw = gw) = true from decide_eq_true rfl, Bool.and_true, hl, met_m hi1 hr hL1 hRL hmr2, hsp] at this
          exact this) (fun W2 hb2 => by
          have := meet_own gw gx cw cx9 l lx (o : Int) 1 (K : Int) (i : Int) (ox : Int) 1 (X : Int) (ix : Int) W2 (h1.nxt hb2) (h3.nxt hb2) (by omega) ho (by unfold I64; omega) hk hi (by omega) hxo (by unfold I64; omega) hxk hxi
          rw [show decide (gw = gx) = false from decide_eq_false (fun e => g2' e.symm), Bool.and_false, Bool.false_and, hl, hlx] at this
          exact this)
  · exact gt_err1 kd a b Am nm cm lm mo mr mk ml Ax nx cx lx xo xk xi A n c l off k inc 3 r0 c0 w hAm hAx hA hWm hWx hW hlm hlx hl hnm hnx hn hG hLx hLy hn0 hrc (by omega)
      (fun W gw cw gx cx9 _ _ _ => gvfits_size (some ⟨gw, 0, none⟩) n cw mo mr mk ml (some ⟨gx, 0, none⟩) nx cx9 xo xk xi (some ⟨gw, 0, none⟩) n cw off k inc c0 r0 W (by omega) hmo hmr hmk hml (by omega) hxo hxk hxi (by omega) ho hk hi hR hs)
      (fun W => rcheck_size A n c mo mr mk ml Ax nx cx xo xk xi A n c off k inc r0 c0 1 W (by omega) hmo hmr hmk hml (by omega) hxo hxk hxi (by omega) ho hk hi hR hs)

set_option maxRecDepth 100000 in
theorem gt_case2 (kd : Int) (a b : Nat) (Am : Option Addr) (nm cm : Nat) (lm : List Nat) (mo mr mk ml : Int) (Ax : Option Addr) (nx cx : Nat) (lx : List Nat) (xo xk xi : Int) (A : Option Addr) (n c : Nat) (l : List Nat) (off k inc : Int) (r0 c0 : Int) (w : World) (hAm : Row w Am (f64s lm)) (hAx : Row w Ax (f64s lx)) (hA : Row w A (f64s l)) (hWm : Wds lm) (hWx : Wds lx) (hW : Wds l) (hlm : lm.length = nm) (hlx : lx.length = nx) (hl : l.length = n) (hnm : nm ≤ 1000) (hnx : nx ≤ 1000) (hn : n ≤ 1000) (hG : greatB nm mr mk = false) (hLx : longB nx xk = false) (hLy : longB n k = false) (hn0 : 0 < n) (hrc : (kd = 1 ∧ r0 = mk ∧ c0 = mr) ∨ (kd ≠ 1 ∧ r0 = mr ∧ c0 = mk)) (ha : a < 18446744073709551616) (hb0 : b < 18446744073709551616) (hmo : I64 mo) (hmr : I64 mr) (hmk : I64 mk) (hml : I64 ml) (hxo : I64 xo) (hxk : I64 xk) (hxi : I64 xi) (ho : I64 off) (hk : I64 k) (hi : I64 inc) (hm20 : mr ≤ 20 ∧ mk ≤ 20) (hx60 : xk ≤ 60) (hk60 : k ≤ 60) :
    Calls Try.prog 3 #[.int .i64 kd, .float .f64 a, mat Am nm cm mo mr mk ml, vec Ax nx cx xo xk xi, .float .f64 b, vec A n c off k inc, .int .i64 2] w fun e w' => e = .returned (.bool true) ∧ Below w.heap.size w w' := by
  cases hR : (matB nm mo mr mk ml && vecB n xo xk xi && vecB n off k inc)
  · exact gt_err2 kd a b Am nm cm lm mo mr mk ml Ax nx cx lx xo xk xi A n c l off k inc 1 r0 c0 w hAm hAx hA hWm hWx hW hlm hlx hl hnm hnx hn hG hLx hLy hn0 hrc (by omega)
      (fun W gw cw gm cm9 _ _ _ => gvfits_bad (some ⟨gm, 0, none⟩) nm cm9 mo mr mk ml (some ⟨gw, 0, none⟩) n cw xo xk xi (some ⟨gw, 0, none⟩) n cw off k inc c0 r0 W (by omega) hmo hmr hmk hml (by omega) hxo hxk hxi (by omega) ho hk hi hR)
      (fun W => rcheck_bad Am nm cm mo mr mk ml A n c xo xk xi A n c off k inc r0 c0 2 W (by omega) hmo hmr hmk hml (by omega) hxo hxk hxi (by omega) ho hk hi hR)
  by_cases hs : xk = c0 ∧ k = r0
  · obtain ⟨rfl, rfl⟩ := hs
    have hR2 := hR
    simp only [Bool.and_eq_true] at hR
    obtain ⟨⟨g1, g2⟩, g3⟩ := hR
    obtain ⟨om, R, C, L, rfl, rfl, rfl, rfl, hL1, hRL, hmr2⟩ := mat_nat g1
    obtain ⟨ox, X, ix, rfl, rfl, rfl, hix, hxr⟩ := vec_nat g2
    obtain ⟨o, K, i, rfl, rfl, rfl, hi1, hr⟩ := vec_nat g3
    cases hsp : spB (vsA o K) (vsB o K i) (vsA ox X) (vsB ox X ix)
    · by_cases e1 : kd = 1
      · obtain ⟨_, d1, d2⟩ := hrc.resolve_right (fun h => h.1 e1)
        obtain rfl : K = C := by omega
        obtain rfl : X = R := by omega
        subst e1
        exact gt_ok21 a b Am nm cm lm Ax nx cx lx A n c l om L ox ix o i K X w hAm hAx hA hWm hWx hW hlm hlx hl hnm hnx hn hG hLx hLy hn0 ha hb0 (by omega) (by omega) hi1 hr hL1 hRL hmr2 hix hxr hmo hml hxo hxi ho hi hsp
      · obtain ⟨_, d1, d2⟩ := hrc.resolve_left (fun h => e1 h.1)
        obtain rfl : K = R := by omega
        obtain rfl : X = C := by omega
        by_cases e0 : kd = 0
        · subst e0
          exact gt_ok20 a b Am nm cm lm Ax nx cx lx A n c l om L ox ix o i K X w hAm hAx hA hWm hWx hW hlm hlx hl hnm hnx hn hG hLx hLy hn0 ha hb0 (by omega) (by omega) hi1 hr hL1 hRL hmr2 hix hxr hmo hml hxo hxi ho hi hsp
        · exact gt_ok22 kd e0 e1 a b Am nm cm lm Ax nx cx lx A n c l om L ox ix o i K X w hAm hAx hA hWm hWx hW hlm hlx hl hnm hnx hn hG hLx hLy hn0 ha hb0 (by omega) (by omega) hi1 hr hL1 hRL hmr2 hix hxr hmo hml hxo hxi ho hi hsp
    · refine gt_err2 kd a b Am nm cm lm om R C L Ax nx cx lx ox X ix A n c l o K i 2 K X w hAm hAx hA hWm hWx hW hlm hlx hl hnm hnx hn hG hLx hLy hn0 hrc (by omega) (fun W gw cw gm cm9 g1' h1 h2 => ?_)
        (fun W => rcheck_2t Am nm cm om R C L A n c ox X ix A n c o K i _ _ _ _ _ _ W (by omega) hmo hmr hmk hml (by omega) hxo hxk hxi (by omega) ho hk hi hR2 (fun W => mspan_any Am nm cm om R C L W (by omega) (by omega) (by omega) hmr2) (fun W => vspan_any A n c ox X ix W (by omega) (by omega) hxr) (fun W => vspan_any A n c o K i W (by omega) (by omega) hr) hsp)
      exact gvfits_m2 (some ⟨gm, 0, none⟩) nm cm9 om R C L (some ⟨gw, 0, none⟩) n cw ox X ix (some ⟨gw, 0, none⟩) n cw o K i W (by omega) hmo hmr hmk hml (by omega) hxo hxk hxi (by omega) ho hk hi hR2 (fun W2 hb2 => by
          have := meet_own gw gm cw cm9 l lm (o : Int) 1 (K : Int) (i : Int) (om : Int) (R : Int) (C : Int) (L : Int) W2 (h1.nxt hb2) (h2.nxt hb2) (by omega) ho (by unfold I64; omega) hk hi (by omega) hmo hmr hmk hml
          rw [show decide (gw = gm) = false from decide_eq_false (fun e => g1' e.symm), Bool.and_false, Bool.false_and, hl, hlm] at this
          exact this) (fun W2 hb2 => by
          have := meet_own gw gw cw cw l l (o : Int) 1 (K : Int) (i : Int) (ox : Int) 1 (X : Int) (ix : Int) W2 (h1.nxt hb2) (h1.nxt hb2) (by omega) ho (by unfold I64; omega) hk hi (by omega) hxo (by unfold I64; omega) hxk hxi
          rw [show decide (gw = gw) = true from decide_eq_true rfl, Bool.and_true, hl, met_x hi1 hr hix hxr, hsp] at this
          exact this)
  · exact gt_err2 kd a b Am nm cm lm mo mr mk ml Ax nx cx lx xo xk xi A n c l off k inc 3 r0 c0 w hAm hAx hA hWm hWx hW hlm hlx hl hnm hnx hn hG hLx hLy hn0 hrc (by omega)
      (fun W gw cw gm cm9 _ _ _ => gvfits_size (some ⟨gm, 0, none⟩) nm cm9 mo mr mk ml (some ⟨gw, 0, none⟩) n cw xo xk xi (some ⟨gw, 0, none⟩) n cw off k inc c0 r0 W (by omega) hmo hmr hmk hml (by omega) hxo hxk hxi (by omega) ho hk hi hR hs)
      (fun W => rcheck_size Am nm cm mo mr mk ml A n c xo xk xi A n c off k inc r0 c0 2 W (by omega) hmo hmr hmk hml (by omega) hxo hxk hxi (by omega) ho hk hi hR hs)

set_option maxRecDepth 100000 in
set_option maxHeartbeats 4000000 in
theorem gemvTells_great (kd : Int) (a b : Nat) (Am : Option Addr) (nm cm : Nat) (mo mr mk ml : Int) (Ax : Option Addr) (nx cx : Nat) (xo xk xi : Int) (A : Option Addr) (n c : Nat) (off k inc one : Int) (w : World) (h : (greatB nm mr mk || longB nx xk || longB n k) = true) :
    Calls Try.prog 3 #[.int .i64 kd, .float .f64 a, mat Am nm cm mo mr mk ml, vec Ax nx cx xo xk xi, .float .f64 b, vec A n c off k inc, .int .i64 one] w fun e w' => e = .returned (.bool true) ∧ Below w.heap.size w w' := by
  have HGr := Lib.hid (fun W => great_any Am nm cm mo mr mk ml W)
  have HLx := Lib.hid (fun W => long_any Ax nx cx xo xk xi W)
  have HLy := Lib.hid (fun W => long_any A n c off k inc W)
  generalize greatB nm mr mk = b1 at *
  generalize longB nx xk = b2 at *
  generalize longB n k = b3 at *
  cases b1
  · cases b2
    · have hb3 : b3 = true := by simpa using h
      subst hb3
      clear h
      unfold mat vec at *
      go_enter Try.func3, Try.ntmps3
      have Hm0 := Lib.hid (((Blk.new w 25 #[.slice Am nm cm, .int .i64 mo, .int .i64 mr, .int .i64 mk, .int .i64 ml]).alloc (.cells #[.slice Ax nx cx, .int .i64 xo, .int .i64 xk, .int .i64 xi] 27)).alloc (.cells #[.slice A n c, .int .i64 off, .int .i64 k, .int .i64 inc] 27))
      have Hx0 := Lib.hid ((Blk.new_ (w.alloc (.cells #[.slice Am nm cm, .int .i64 mo, .int .i64 mr, .int .i64 mk, .int .i64 ml] 25)) 27 #[.slice Ax nx cx, .int .i64 xo, .int .i64 xk, .int .i64 xi] (w.heap.size + 1) (by simp)).alloc (.cells #[.slice A n c, .int .i64 off, .int .i64 k, .int .i64 inc] 27))
      have Hy0 := Lib.hid (Blk.new_ ((w.alloc (.cells #[.slice Am nm cm, .int .i64 mo, .int .i64 mr, .int .i64 mk, .int .i64 ml] 25)).alloc (.cells #[.slice Ax nx cx, .int .i64 xo, .int .i64 xk, .int .i64 xi] 27)) 27 #[.slice A n c, .int .i64 off, .int .i64 k, .int .i64 inc] (w.heap.size + 1 + 1) (by simp))
      have HB0 := Lib.hid ((((Below.refl w.heap.size w).alloc (Nat.le_refl _) (.cells #[.slice Am nm cm, .int .i64 mo, .int .i64 mr, .int .i64 mk, .int .i64 ml] 25)).alloc (by simp) (.cells #[.slice Ax nx cx, .int .i64 xo, .int .i64 xk, .int .i64 xi] 27)).alloc (by simp; omega) (.cells #[.slice A n c, .int .i64 off, .int .i64 k, .int .i64 inc] 27))
      obtain ⟨m0, m1, m2, m3, m4⟩ := cells5 Hm0.out
      obtain ⟨x0, x1, x2, x3⟩ := cells4w Hx0.out
      obtain ⟨y0, y1, y2, y3⟩ := cells4w Hy0.out
      go_wp2_with fail
      refine (awake7_any _).mono ?_
      rintro e w1 ⟨rfl, hb⟩
      have Hm1 := Lib.hid (Hm0.out.nxt hb)
      have Hx1 := Lib.hid (Hx0.out.nxt hb)
      have Hy1 := Lib.hid (Hy0.out.nxt hb)
      have HB1 := Lib.hid (below_nx HB0.out hb)
      clear hb
      clear m0 m1 m2 m3 m4 x0 x1 x2 x3 y0 y1 y2 y3
      obtain ⟨m0, m1, m2, m3, m4⟩ := cells5 Hm1.out
      obtain ⟨x0, x1, x2, x3⟩ := cells4w Hx1.out
      obtain ⟨y0, y1, y2, y3⟩ := cells4w Hy1.out
      go_wp2_with fail
      refine (HGr.out _).mono ?_
      rintro e w2 ⟨rfl, hb⟩
      have Hm2 := Lib.hid (Hm1.out.nxt hb)
      have Hx2 := Lib.hid (Hx1.out.nxt hb)
      have Hy2 := Lib.hid (Hy1.out.nxt hb)
      have HB2 := Lib.hid (below_nx HB1.out hb)
      clear hb
      clear m0 m1 m2 m3 m4 x0 x1 x2 x3 y0 y1 y2 y3
      obtain ⟨m0, m1, m2, m3, m4⟩ := cells5 Hm2.out
      obtain ⟨x0, x1, x2, x3⟩ := cells4w Hx2.out
      obtain ⟨y0, y1, y2, y3⟩ := cells4w Hy2.out
      go_wp2_with fail
      refine (HLx.out _).mono ?_
      rintro e w3 ⟨rfl, hb⟩
      have Hm3 := Lib.hid (Hm2.out.nxt hb)
      have Hx3 := Lib.hid (Hx2.out.nxt hb)
      have Hy3 := Lib.hid (Hy2.out.nxt hb)
      have HB3 := Lib.hid (below_nx HB2.out hb)
      clear hb
      clear m0 m1 m2 m3 m4 x0 x1 x2 x3 y0 y1 y2 y3
      obtain ⟨m0, m1, m2, m3, m4⟩ := cells5 Hm3.out
      obtain ⟨x0, x1, x2, x3⟩ := cells4w Hx3.out
      obtain ⟨y0, y1, y2, y3⟩ := cells4w Hy3.out
      go_wp2_with fail
      refine (HLy.out _).mono ?_
      rintro e w4 ⟨rfl, hb⟩
      have Hm4 := Lib.hid (Hm3.out.nxt hb)
      have Hx4 := Lib.hid (Hx3.out.nxt hb)
      have Hy4 := Lib.hid (Hy3.out.nxt hb)
      have HB4 := Lib.hid (below_nx HB3.out hb)
      clear hb
      clear m0 m1 m2 m3 m4 x0 x1 x2 x3 y0 y1 y2 y3
      obtain ⟨m0, m1, m2, m3, m4⟩ := cells5 Hm4.out
      obtain ⟨x0, x1, x2, x3⟩ := cells4w Hx4.out
      obtain ⟨y0, y1, y2, y3⟩ := cells4w Hy4.out
      go_wp2_with fail
      refine (awake7_any _).mono ?_
      rintro e w5 ⟨rfl, hb⟩
      have Hm5 := Lib.hid (Hm4.out.nxt hb)
      have Hx5 := Lib.hid (Hx4.out.nxt hb)
      have Hy5 := Lib.hid (Hy4.out.nxt hb)
      have HB5 := Lib.hid (below_nx HB4.out hb)
      clear hb
      clear m0 m1 m2 m3 m4 x0 x1 x2 x3 y0 y1 y2 y3
      obtain ⟨m0, m1, m2, m3, m4⟩ := cells5 Hm5.out
      obtain ⟨x0, x1, x2, x3⟩ := cells4w Hx5.out
      obtain ⟨y0, y1, y2, y3⟩ := cells4w Hy5.out
      go_wp2_with fail
      go_ret
      exact ⟨rfl, HB5.out⟩
    · clear h
      unfold mat vec at *
      go_enter Try.func3, Try.ntmps3
      have Hm0 := Lib.hid (((Blk.new w 25 #[.slice Am nm cm, .int .i64 mo, .int .i64 mr, .int .i64 mk, .int .i64 ml]).alloc (.cells #[.slice Ax nx cx, .int .i64 xo, .int .i64 xk, .int .i64 xi] 27)).alloc (.cells #[.slice A n c, .int .i64 off, .int .i64 k, .int .i64 inc] 27))
      have Hx0 := Lib.hid ((Blk.new_ (w.alloc (.cells #[.slice Am nm cm, .int .i64 mo, .int .i64 mr, .int .i64 mk, .int .i64 ml] 25)) 27 #[.slice Ax nx cx, .int .i64 xo, .int .i64 xk, .int .i64 xi] (w.heap.size + 1) (by simp)).alloc (.cells #[.slice A n c, .int .i64 off, .int .i64 k, .int .i64 inc] 27))
      have Hy0 := Lib.hid (Blk.new_ ((w.alloc (.cells #[.slice Am nm cm, .int .i64 mo, .int .i64 mr, .int .i64 mk, .int .i64 ml] 25)).alloc (.cells #[.slice Ax nx cx, .int .i64 xo, .int .i64 xk, .int .i64 xi] 27)) 27 #[.slice A n c, .int .i64 off, .int .i64 k, .int .i64 inc] (w.heap.size + 1 + 1) (by simp))
      have HB0 := Lib.hid ((((Below.refl w.heap.size w).alloc (Nat.le_refl _) (.cells #[.slice Am nm cm, .int .i64 mo, .int .i64 mr, .int .i64 mk, .int .i64 ml] 25)).alloc (by simp) (.cells #[.slice Ax nx cx, .int .i64 xo, .int .i64 xk, .int .i64 xi] 27)).alloc (by simp; omega) (.cells #[.slice A n c, .int .i64 off, .int .i64 k, .int .i64 inc] 27))
      obtain ⟨m0, m1, m2, m3, m4⟩ := cells5 Hm0.out
      obtain ⟨x0, x1, x2, x3⟩ := cells4w Hx0.out
      obtain ⟨y0, y1, y2, y3⟩ := cells4w Hy0.out
      go_wp2_with fail
      refine (awake7_any _).mono ?_
      rintro e w1 ⟨rfl, hb⟩
      have Hm1 := Lib.hid (Hm0.out.nxt hb)
      have Hx1 := Lib.hid (Hx0.out.nxt hb)
      have Hy1 := Lib.hid (Hy0.out.nxt hb)
      have HB1 := Lib.hid (below_nx HB0.out hb)
      clear hb
      clear m0 m1 m2 m3 m4 x0 x1 x2 x3 y0 y1 y2 y3
      obtain ⟨m0, m1, m2, m3, m4⟩ := cells5 Hm1.out
      obtain ⟨x0, x1, x2, x3⟩ := cells4w Hx1.out
      obtain ⟨y0, y1, y2, y3⟩ := cells4w Hy1.out
      go_wp2_with fail
      refine (HGr.out _).mono ?_
      rintro e w2 ⟨rfl, hb⟩
      have Hm2 := Lib.hid (Hm1.out.nxt hb)
      have Hx2 := Lib.hid (Hx1.out.nxt hb)
      have Hy2 := Lib.hid (Hy1.out.nxt hb)
      have HB2 := Lib.hid (below_nx HB1.out hb)
      clear hb
      clear m0 m1 m2 m3 m4 x0 x1 x2 x3 y0 y1 y2 y3
      obtain ⟨m0, m1, m2, m3, m4⟩ := cells5 Hm2.out
      obtain ⟨x0, x1, x2, x3⟩ := cells4w Hx2.out
      obtain ⟨y0, y1, y2, y3⟩ := cells4w Hy2.out
      go_wp2_with fail
      refine (HLx.out _).mono ?_
      rintro e w3 ⟨rfl, hb⟩
      have Hm3 := Lib.hid (Hm2.out.nxt hb)
      have Hx3 := Lib.hid (Hx2.out.nxt hb)
      have Hy3 := Lib.hid (Hy2.out.nxt hb)
      have HB3 := Lib.hid (below_nx HB2.out hb)
      clear hb
      clear m0 m1 m2 m3 m4 x0 x1 x2 x3 y0 y1 y2 y3
      obtain ⟨m0, m1, m2, m3, m4⟩ := cells5 Hm3.out
      obtain ⟨x0, x1, x2, x3⟩ := cells4w Hx3.out
      obtain ⟨y0, y1, y2, y3⟩ := cells4w Hy3.out
      go_wp2_with fail
      refine (awake7_any _).mono ?_
      rintro e w5 ⟨rfl, hb⟩
      have Hm4 := Lib.hid (Hm3.out.nxt hb)
      have Hx4 := Lib.hid (Hx3.out.nxt hb)
      have Hy4 := Lib.hid (Hy3.out.nxt hb)
      have HB4 := Lib.hid (below_nx HB3.out hb)
      clear hb
      clear m0 m1 m2 m3 m4 x0 x1 x2 x3 y0 y1 y2 y3
      obtain ⟨m0, m1, m2, m3, m4⟩ := cells5 Hm4.out
      obtain ⟨x0, x1, x2, x3⟩ := cells4w Hx4.out
      obtain ⟨y0, y1, y2, y3⟩ := cells4w Hy4.out
      go_wp2_with fail
      go_ret
      exact ⟨rfl, HB4.out⟩
  · clear h
    unfold mat vec at *
    go_enter Try.func3, Try.ntmps3
    have Hm0 := Lib.hid (((Blk.new w 25 #[.slice Am nm cm, .int .i64 mo, .int .i64 mr, .int .i64 mk, .int .i64 ml]).alloc (.cells #[.slice Ax nx cx, .int .i64 xo, .int .i64 xk, .int .i64 xi] 27)).alloc (.cells #[.slice A n c, .int .i64 off, .int .i64 k, .int .i64 inc] 27))
    have Hx0 := Lib.hid ((Blk.new_ (w.alloc (.cells #[.slice Am nm cm, .int .i64 mo, .int .i64 mr, .int .i64 mk, .int .i64 ml] 25)) 27 #[.slice Ax nx cx, .int .i64 xo, .int .i64 xk, .int .i64 xi] (w.heap.size + 1) (by simp)).alloc (.cells #[.slice A n c, .int .i64 off, .int .i64 k, .int .i64 inc] 27))
    have Hy0 := Lib.hid (Blk.new_ ((w.alloc (.cells #[.slice Am nm cm, .int .i64 mo, .int .i64 mr, .int .i64 mk, .int .i64 ml] 25)).alloc (.cells #[.slice Ax nx cx, .int .i64 xo, .int .i64 xk, .int .i64 xi] 27)) 27 #[.slice A n c, .int .i64 off, .int .i64 k, .int .i64 inc] (w.heap.size + 1 + 1) (by simp))
    have HB0 := Lib.hid ((((Below.refl w.heap.size w).alloc (Nat.le_refl _) (.cells #[.slice Am nm cm, .int .i64 mo, .int .i64 mr, .int .i64 mk, .int .i64 ml] 25)).alloc (by simp) (.cells #[.slice Ax nx cx, .int .i64 xo, .int .i64 xk, .int .i64 xi] 27)).alloc (by simp; omega) (.cells #[.slice A n c, .int .i64 off, .int .i64 k, .int .i64 inc] 27))
    obtain ⟨m0, m1, m2, m3, m4⟩ := cells5 Hm0.out
    obtain ⟨x0, x1, x2, x3⟩ := cells4w Hx0.out
    obtain ⟨y0, y1, y2, y3⟩ := cells4w Hy0.out
    go_wp2_with fail
    refine (awake7_any _).mono ?_
    rintro e w1 ⟨rfl, hb⟩
    have Hm1 := Lib.hid (Hm0.out.nxt hb)
    have Hx1 := Lib.hid (Hx0.out.nxt hb)
    have Hy1 := Lib.hid (Hy0.out.nxt hb)
    have HB1 := Lib.hid (below_nx HB0.out hb)
    clear hb
    clear m0 m1 m2 m3 m4 x0 x1 x2 x3 y0 y1 y2 y3
    obtain ⟨m0, m1, m2, m3, m4⟩ := cells5 Hm1.out
    obtain ⟨x0, x1, x2, x3⟩ := cells4w Hx1.out
    obtain ⟨y0, y1, y2, y3⟩ := cells4w Hy1.out
    go_wp2_with fail
    refine (HGr.out _).mono ?_
    rintro e w2 ⟨rfl, hb⟩
    have Hm2 := Lib.hid (Hm1.out.nxt hb)
    have Hx2 := Lib.hid (Hx1.out.nxt hb)
    have Hy2 := Lib.hid (Hy1.out.nxt hb)
    have HB2 := Lib.hid (below_nx HB1.out hb)
    clear hb
    clear m0 m1 m2 m3 m4 x0 x1 x2 x3 y0 y1 y2 y3
    obtain ⟨m0, m1, m2, m3, m4⟩ := cells5 Hm2.out
    obtain ⟨x0, x1, x2, x3⟩ := cells4w Hx2.out
    obtain ⟨y0, y1, y2, y3⟩ := cells4w Hy2.out
    go_wp2_with fail
    refine (awake7_any _).mono ?_
    rintro e w5 ⟨rfl, hb⟩
    have Hm3 := Lib.hid (Hm2.out.nxt hb)
    have Hx3 := Lib.hid (Hx2.out.nxt hb)
    have Hy3 := Lib.hid (Hy2.out.nxt hb)
    have HB3 := Lib.hid (below_nx HB2.out hb)
    clear hb
    clear m0 m1 m2 m3 m4 x0 x1 x2 x3 y0 y1 y2 y3
    obtain ⟨m0, m1, m2, m3, m4⟩ := cells5 Hm3.out
    obtain ⟨x0, x1, x2, x3⟩ := cells4w Hx3.out
    obtain ⟨y0, y1, y2, y3⟩ := cells4w Hy3.out
    go_wp2_with fail
    go_ret
    exact ⟨rfl, HB3.out⟩

theorem gemvTells_walk (kd : Int) (a : Nat) (Am : Option Addr) (cm : Nat) (lm : List Nat) (mo mr mk ml : Int) (Ax : Option Addr) (cx : Nat) (lx : List Nat) (xo xk xi : Int) (b : Nat) (A : Option Addr) (c : Nat) (l : List Nat) (off k inc one : Int) (w : World) (ha : a < 18446744073709551616) (hAm : Row w Am (f64s lm)) (hWm : Wds lm) (hmo : I64 mo) (hmr : I64 mr) (hmk : I64 mk) (hml : I64 ml)
    (hAx : Row w Ax (f64s lx)) (hWx : Wds lx) (hxo : I64 xo) (hxk : I64 xk) (hxi : I64 xi) (hb0 : b < 18446744073709551616) (hA : Row w A (f64s l)) (hW : Wds l) (ho : I64 off) (hk : I64 k) (hi : I64 inc) :
    Calls Try.prog 3 #[.int .i64 kd, .float .f64 a, mat Am lm.length cm mo mr mk ml, vec Ax lx.length cx xo xk xi, .float .f64 b, vec A l.length c off k inc, .int .i64 one] w fun e w' => e = .returned (.bool true) ∧ Below w.heap.size w w' := by
  cases hG : greatB lm.length mr mk
  · cases hLx : longB lx.length xk
    · cases hLy : longB l.length k
      · have q1 : lm.length ≤ 1000 ∧ mr ≤ 20 ∧ mk ≤ 20 := by unfold greatB at hG; simp at hG; omega
        have q2 : lx.length ≤ 1000 ∧ xk ≤ 60 := by unfold longB at hLx; simp at hLx; omega
        have q3 : l.length ≤ 1000 ∧ k ≤ 60 := by unfold longB at hLy; simp at hLy; omega
        obtain ⟨r0, c0, hrc⟩ : ∃ r0 c0 : Int, (kd = 1 ∧ r0 = mk ∧ c0 = mr) ∨ (kd ≠ 1 ∧ r0 = mr ∧ c0 = mk) := by
          by_cases e : kd = 1
          · exact ⟨_, _, .inl ⟨e, rfl, rfl⟩⟩
          · exact ⟨_, _, .inr ⟨e, rfl, rfl⟩⟩
        by_cases s1 : one = 1 ∧ 0 < l.length
        · obtain ⟨rfl, hn0⟩ := s1
          exact gt_case1 kd a b Am _ cm lm mo mr mk ml Ax _ cx lx xo xk xi A _ c l off k inc r0 c0 w hAm hAx hA hWm hWx hW rfl rfl rfl q1.1 q2.1 q3.1 hG hLx hLy hn0 hrc ha hb0 hmo hmr hmk hml hxo hxk hxi ho hk hi q1.2 q2.2 q3.2
        by_cases s2 : one = 2 ∧ 0 < l.length
        · obtain ⟨rfl, hn0⟩ := s2
          exact gt_case2 kd a b Am _ cm lm mo mr mk ml Ax _ cx lx xo xk xi A _ c l off k inc r0 c0 w hAm hAx hA hWm hWx hW rfl rfl rfl q1.1 q2.1 q3.1 hG hLx hLy hn0 hrc ha hb0 hmo hmr hmk hml hxo hxk hxi ho hk hi q1.2 q2.2 q3.2
        have f1 : (one == 1) = false ∨ l.length = 0 := by
          by_cases e : one = 1
          · right; have : ¬ 0 < l.length := fun h => s1 ⟨e, h⟩; omega
          · left; simp [e]
        have f2 : (one == 2) = false ∨ l.length = 0 := by
          by_cases e : one = 2
          · right; have : ¬ 0 < l.length := fun h => s2 ⟨e, h⟩; omega
          · left; simp [e]
        exact gt_case0 kd a b Am _ cm lm mo mr mk ml Ax _ cx lx xo xk xi A _ c l off k inc one r0 c0 w hAm hAx hA hWm hWx hW rfl rfl rfl q1.1 q2.1 q3.1 hG hLx hLy f1 f2 hrc ha hb0 hmo hmr hmk hml hxo hxk hxi ho hk hi q1.2 q2.2 q3.2
      · exact gemvTells_great kd a b Am _ cm mo mr mk ml Ax _ cx xo xk xi A _ c off k inc one w (by rw [hG, hLx, hLy]; rfl)
    · exact gemvTells_great kd a b Am _ cm mo mr mk ml Ax _ cx xo xk xi A _ c off k inc one w (by rw [hG, hLx]; rfl)
  · exact gemvTells_great kd a b Am _ cm mo mr mk ml Ax _ cx xo xk xi A _ c off k inc one w (by rw [hG]; rfl)
end Go.Proofs.Ytodoibioedelgaa
