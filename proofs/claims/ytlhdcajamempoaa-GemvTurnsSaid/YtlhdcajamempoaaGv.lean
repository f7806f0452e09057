/-
Gemv: MulT, no error. Conditions: as it says.
-/
import Derived.Test.YtlhdcajamempoaaZGvE
import Derived.Test.YtlhdcajamempoaaGu
set_option linter.unusedVariables false
set_option linter.unusedSimpArgs false
set_option linter.unnecessarySimpa false
namespace Go.Proofs.Ytlhdcajamempoaa
open Go.RowKit
attribute [local go_sem ↓] Go.wp_at_zero Go.wp_at_succ


set_option maxRecDepth 100000 in
set_option maxHeartbeats 2000000 in
theorem gvmult_ok (a b : Nat) (g c n : Nat) (l : List Nat) (o K i : Nat) (gm cm nm : Nat) (lm : List Nat) (om R L : Nat) (gx cx nx : Nat) (lx : List Nat) (ox ix : Nat) (w : World)
    (hO : Own w g l) (hl : l.length = n) (hn : n < 1048576) (hi1 : 1 ≤ i) (hr : K = 0 ∨ o + (K - 1) * i < n)
    (hgl : gm = g → n = nm) (hgx : gx = g → n = nx) (hM : Own w gm lm) (hlm : lm.length = nm) (hnm : nm < 1048576) (hL1 : 1 ≤ L) (hKL : R ≤ L) (hmr : R = 0 ∨ K = 0 ∨ om + (K - 1) * L + (R - 1) < nm) (hWm : Wds lm)
    (hX : Own w gx lx) (hlx : lx.length = nx) (hnx : nx < 1048576) (hix : 1 ≤ ix) (hxr : R = 0 ∨ ox + (R - 1) * ix < nx) (hWx : Wds lx) (hom : I64 om) (hLI : I64 L) (hox : I64 ox) (hixI : I64 ix) (hKb : K < 1048576) (hCb : R < 1048576)
    (hdm : gm = g → ∀ a, a < R → ∀ b, b < K → ∀ q, q < K → om + b * L + a ≠ o + q * i) (hdx : gx = g → ∀ b, b < R → ∀ q, q < K → ox + b * ix ≠ o + q * i)
    (hFit : ∀ W, Below w.heap.size w W → Calls Try.prog 45 #[mat (some ⟨gm, 0, none⟩) nm cm om R K L, vec (some ⟨gx, 0, none⟩) nx cx ox R ix, vec (some ⟨g, 0, none⟩) n c o K i, .int .i64 (R : Int), .int .i64 (K : Int)] W fun e w' => e = .returned (.int .i64 0) ∧ Below W.heap.size W w') :
    Calls Try.prog 10 #[.float .f64 a, mat (some ⟨gm, 0, none⟩) nm cm om R K L, vec (some ⟨gx, 0, none⟩) nx cx ox R ix, .float .f64 b, vec (some ⟨g, 0, none⟩) n c o K i] w fun e w' => e = .returned (.int .i64 0) ∧
      ∃ m : List Nat, m.length = K ∧ (∀ q, q < K → TurnQ a b l o i lm om R L lx ox ix q (m.getD q 0)) ∧ Own w' g (wrt l o i m K) ∧ Chg [g] w w' := by
  have hRn : ∀ q, q < K → o + q * i < n := fun q hq => by
    rcases hr with h0 | h0
    · omega
    · exact place_lt h0 hq
  have HFt := Lib.hid hFit
  have HBg := Lib.hid (fun W (hb : Below w.heap.size w W) => gvbegin_any b g c l n o K i (fun W => (MLst W gm nm lm om R K L ∧ VLst W gx nx lx ox R ix)) W (hO.nxt hb) hl hn hi1 hr ⟨⟨lm, hM.nxt hb, hlm, hWm, fun _ _ _ _ => rfl⟩, ⟨lx, hX.nxt hb, hlx, hWx, fun _ _ => rfl⟩⟩ (fun W W' h hb' => ⟨h.1.nxt hb', h.2.nxt hb'⟩) (fun W q v hq hv h => ⟨h.1.set_ (n' := 0) (fun e => by have h1 := hRn q hq; have h2 := hgl e; omega) hv (fun e a ha b hb => hdm e a ha b hb q hq), h.2.set_ (n' := 0) (fun e => by have h1 := hRn q hq; have h2 := hgx e; omega) hv (fun e b hb => hdx e b hb q hq)⟩))
  have HCl := fun W (q : Nat) (hq : q < K) => vcol_some (some ⟨gm, 0, none⟩) nm cm (om : Int) (R : Int) (K : Int) (L : Int) (q : Int) W (by omega) hom (by unfold I64; omega) (by unfold I64; omega) hLI (by unfold I64; omega) (mat_right hL1 hKL hmr) (by omega)
  have hvx : vecB nx (ox : Int) (R : Int) (ix : Int) = true := vec_right hix hxr
  have HCo := Lib.hid (fun W (l1 : List Nat) (pa pm px : Nat) (hp : pa ≠ g) (hp1 : pm ≠ g) (hp2 : px ≠ g) (hl1 : l1.length = n) (h1 : Own W g l1) (hI : (MLst W gm nm lm om R K L ∧ VLst W gx nx lx ox R ix)) (hA : W.cell? ⟨pa, 0, none⟩ = some (.float .f64 a))
      (hBm : Blk W pm 26 #[.slice (some ⟨gm, 0, none⟩) nm cm, .int .i64 (om : Int), .int .i64 (R : Int), .int .i64 (K : Int), .int .i64 (L : Int)]) (hBx : Blk W px 32 #[.slice (some ⟨gx, 0, none⟩) nx cx, .int .i64 (ox : Int), .int .i64 (R : Int), .int .i64 (ix : Int)]) =>
    gveach_any 48 #[.pointer (some ⟨pm, 0, none⟩), .pointer (some ⟨px, 0, none⟩), .pointer (some ⟨pa, 0, none⟩)]
      (fun W => (MLst W gm nm lm om R K L ∧ VLst W gx nx lx ox R ix) ∧ W.cell? ⟨pa, 0, none⟩ = some (.float .f64 a) ∧ Blk W pm 26 #[.slice (some ⟨gm, 0, none⟩) nm cm, .int .i64 (om : Int), .int .i64 (R : Int), .int .i64 (K : Int), .int .i64 (L : Int)] ∧ Blk W px 32 #[.slice (some ⟨gx, 0, none⟩) nx cx, .int .i64 (ox : Int), .int .i64 (R : Int), .int .i64 (ix : Int)])
      (fun q r => TurnR a (dotF (lst lm (om + q * L) 1 R) (lst lx ox ix R) R) (l1.getD (o + q * i) 0) r) g n c l1 o K i W (fun args W => gvmult_enters args W) h1 hl1 hn hi1 hr ⟨hI, hA, hBm, hBx⟩
      (fun W W' h hb' => ⟨⟨h.1.1.nxt hb', h.1.2.nxt hb'⟩, cell_below h.2.1 hb', h.2.2.1.nxt hb', h.2.2.2.nxt hb'⟩)
      (fun W q v hq hR h => by
        have hv : v < 18446744073709551616 := by
          obtain ⟨_, _, _, _, h5⟩ := hR
          exact h5.1
        exact ⟨(fun (h : (MLst W gm nm lm om R K L ∧ VLst W gx nx lx ox R ix)) => ⟨h.1.set_ (n' := 0) (fun e => by have h1 := hRn q hq; have h2 := hgl e; omega) hv (fun e a ha b hb => hdm e a ha b hb q hq), h.2.set_ (n' := 0) (fun e => by have h1 := hRn q hq; have h2 := hgx e; omega) hv (fun e b hb => hdx e b hb q hq)⟩) h.1, (cell_set hp _).trans h.2.1, h.2.2.1.other hp1 _, h.2.2.2.other hp2 _⟩)
      (fun W q hq h => by
        obtain ⟨O, hO1, hO2⟩ : ∃ O : Nat, colOff (om : Int) (R : Int) (L : Int) (q : Int) = (O : Int) ∧ ((0 < R ∧ O = om + q * L) ∨ (R = 0 ∧ O = om)) := by
          unfold colOff
          by_cases e : R = 0
          · exact ⟨om, by rw [if_pos (by omega)], .inr ⟨e, rfl⟩⟩
          · exact ⟨om + q * L, by rw [if_neg (by omega)]; simp, .inl ⟨by omega, rfl⟩⟩
        have HC1 := fun W => HCl W q hq
        rw [hO1] at HC1
        have hO3 : R = 0 ∨ O + (R - 1) * 1 < nm := by
          rcases Nat.eq_zero_or_pos R with e | e
          · exact .inl e
          · right
            have := mat_lt hmr (show R - 1 < R by omega) hq
            omega
        have hOm : (O : Int) < 9223372036854775808 := by
          rcases hO2 with ⟨e0, e⟩ | ⟨_, e⟩
          · rcases hO3 with e3 | e3 <;> omega
          · unfold I64 at hom; omega
        have hvm : vecB nm (O : Int) (R : Int) ((1 : Nat) : Int) = true := vec_right (Nat.le_refl _) hO3
        have := gvmult_one a (l1.getD (o + q * i) 0) pa pm px gm cm nm om R K L gx cx nx ox ix q O (dotF (lst lm (om + q * L) 1 R) (lst lx ox ix R) R) (fun W => (MLst W gm nm lm om R K L ∧ VLst W gx nx lx ox R ix)) W h.1 (fun W W' h hb' => ⟨h.1.nxt hb', h.2.nxt hb'⟩) h.2.1 h.2.2.1 h.2.2.2 HC1 (fun W hi => by
          obtain ⟨⟨l2, a1, a2, a3, a4⟩, ⟨l3, b1, b2, b3, b4⟩⟩ := hi
          have := dot_ok (some ⟨gm, 0, none⟩) (some ⟨gx, 0, none⟩) nm cm l2 O R 1 nx cx l3 ox ix W a1.row b1.row a3 b3 a2 b2 hnm hnx hO3 hxr (by omega) hvm hvx (by unfold I64; omega) (by unfold I64; omega) hox hixI
          have e1 : lst l2 O 1 R = lst lm (om + q * L) 1 R := by
            rcases hO2 with ⟨_, rfl⟩ | ⟨rfl, rfl⟩
            · exact lst_congr fun j hj => by have := a4 j hj q hq; rw [Nat.mul_one]; exact this
            · rfl
          have e2 : lst l3 ox ix R = lst lx ox ix R := lst_congr fun j hj => b4 j hj
          rw [e1, e2] at this
          exact this)
        exact this))
  have Hw := Lib.hid (And.intro hi1 (show K = 0 ∨ o + (K - 1) * i < l.length by rw [hl]; exact hr))
  have Hl := Lib.hid hl
  have Hg := Lib.hid (show g < w.heap.size from hO.lt)
  clear hO hl hn hi1 hr hM hlm hnm hL1 hKL hmr hWm hX hlx hnx hix hxr hWx hom hLI hox hixI hdm hdx hFit hRn hKb hCb hgl hgx HCl hvx
  unfold mat vec at *
  go_enter Try.func10, Try.ntmps10
  have HA0 := Lib.hid ((((Blk.new_ w 28 #[.float .f64 a] (w.heap.size) (by simp)).alloc (.cells #[.slice (some ⟨gm, 0, none⟩) nm cm, .int .i64 om, .int .i64 R, .int .i64 K, .int .i64 L] 26)).alloc (.cells #[.slice (some ⟨gx, 0, none⟩) nx cx, .int .i64 ox, .int .i64 R, .int .i64 ix] 32)).alloc (.cells #[.slice (some ⟨g, 0, none⟩) n c, .int .i64 o, .int .i64 K, .int .i64 i] 32))
  have HM0 := Lib.hid (((Blk.new_ (w.alloc (.cells #[.float .f64 a] 28)) 26 #[.slice (some ⟨gm, 0, none⟩) nm cm, .int .i64 om, .int .i64 R, .int .i64 K, .int .i64 L] (w.heap.size + 1) (by simp)).alloc (.cells #[.slice (some ⟨gx, 0, none⟩) nx cx, .int .i64 ox, .int .i64 R, .int .i64 ix] 32)).alloc (.cells #[.slice (some ⟨g, 0, none⟩) n c, .int .i64 o, .int .i64 K, .int .i64 i] 32))
  have HX0 := Lib.hid ((Blk.new_ ((w.alloc (.cells #[.float .f64 a] 28)).alloc (.cells #[.slice (some ⟨gm, 0, none⟩) nm cm, .int .i64 om, .int .i64 R, .int .i64 K, .int .i64 L] 26)) 32 #[.slice (some ⟨gx, 0, none⟩) nx cx, .int .i64 ox, .int .i64 R, .int .i64 ix] (w.heap.size + 1 + 1) (by simp)).alloc (.cells #[.slice (some ⟨g, 0, none⟩) n c, .int .i64 o, .int .i64 K, .int .i64 i] 32))
  have HY0 := Lib.hid (Blk.new_ (((w.alloc (.cells #[.float .f64 a] 28)).alloc (.cells #[.slice (some ⟨gm, 0, none⟩) nm cm, .int .i64 om, .int .i64 R, .int .i64 K, .int .i64 L] 26)).alloc (.cells #[.slice (some ⟨gx, 0, none⟩) nx cx, .int .i64 ox, .int .i64 R, .int .i64 ix] 32)) 32 #[.slice (some ⟨g, 0, none⟩) n c, .int .i64 o, .int .i64 K, .int .i64 i] (w.heap.size + 1 + 1 + 1) (by simp))
  have HB0 := Lib.hid (((((Below.refl w.heap.size w).alloc (Nat.le_refl _) (.cells #[.float .f64 a] 28)).alloc (by simp) (.cells #[.slice (some ⟨gm, 0, none⟩) nm cm, .int .i64 om, .int .i64 R, .int .i64 K, .int .i64 L] 26)).alloc (by simp; omega) (.cells #[.slice (some ⟨gx, 0, none⟩) nx cx, .int .i64 ox, .int .i64 R, .int .i64 ix] 32)).alloc (by simp; omega) (.cells #[.slice (some ⟨g, 0, none⟩) n c, .int .i64 o, .int .i64 K, .int .i64 i] 32))
  obtain ⟨m0, m1, m2, m3, m4⟩ := cells5 HM0.out
  obtain ⟨x0, x1, x2, x3⟩ := cells4w HX0.out
  obtain ⟨y0, y1, y2, y3⟩ := cells4w HY0.out
  go_wp2_with fail
  refine (HFt.out _ HB0.out).mono ?_
  rintro e w1 ⟨rfl, hb⟩
  have HB1 := Lib.hid (below_nx HB0.out hb)
  have HM1 := Lib.hid (HM0.out.nxt hb)
  have HX1 := Lib.hid (HX0.out.nxt hb)
  have HY1 := Lib.hid (HY0.out.nxt hb)
  have HA1 := Lib.hid (HA0.out.nxt hb)
  clear hb m0 m1 m2 m3 m4 x0 x1 x2 x3 y0 y1 y2 y3
  obtain ⟨m0, m1, m2, m3, m4⟩ := cells5 HM1.out
  obtain ⟨x0, x1, x2, x3⟩ := cells4w HX1.out
  obtain ⟨y0, y1, y2, y3⟩ := cells4w HY1.out
  go_wp2_with fail
  refine (HBg.out _ HB1.out).mono ?_
  rintro e w2 ⟨rfl, m, hm1, hm2, hm3, hm4, hm5⟩
  have HN := Lib.hid (And.intro hm1 (And.intro hm2 (And.intro hm3 (And.intro hm4 hm5))))
  have hng : ∀ p, w.heap.size ≤ p → p ∉ [g] := fun p hp => by simp; have := Hg.out; omega
  have HM2 := Lib.hid (hm5.blk (hng _ (by omega)) HM1.out)
  have HX2 := Lib.hid (hm5.blk (hng _ (by omega)) HX1.out)
  have HY2 := Lib.hid (hm5.blk (hng _ (by omega)) HY1.out)
  have HA2 := Lib.hid (hm5.blk (hng _ (by omega)) HA1.out)
  clear hm1 hm2 hm3 hm4 hm5 hng m0 m1 m2 m3 m4 x0 x1 x2 x3 y0 y1 y2 y3
  obtain ⟨m0, m1, m2, m3, m4⟩ := cells5 HM2.out
  obtain ⟨x0, x1, x2, x3⟩ := cells4w HX2.out
  obtain ⟨y0, y1, y2, y3⟩ := cells4w HY2.out
  go_wp2_with fail
  refine (HCo.out _ _ _ _ _ (by have := Hg.out; omega) (by have := Hg.out; omega) (by have := Hg.out; omega) (by rw [wrt_length, Hl.out]) HN.out.2.2.1 HN.out.2.2.2.1 (HA2.out.cell 0) HM2.out HX2.out).mono ?_
  rintro e w3 ⟨rfl, m', hp1, hp2, hp3, hp4, hp5⟩
  have HQ := Lib.hid (And.intro hp1 (And.intro hp2 (And.intro hp3 hp5)))
  clear hp1 hp2 hp3 hp5 hp4 m0 m1 m2 m3 m4 x0 x1 x2 x3 y0 y1 y2 y3
  go_wp2_with fail
  go_ret
  obtain ⟨k1, k2, k3, k4⟩ := HQ.out
  obtain ⟨n1, n2, n3, n4, n5⟩ := HN.out
  rw [wrt_wrt l o i m m' K Hw.out.1 Hw.out.2] at k3
  refine ⟨rfl, m', k1, fun q hq => ⟨m.getD q 0, n2 q hq, ?_⟩, k3, ((Chg.of_below HB1.out).trans n5).trans k4⟩
  have := k2 q hq
  rw [wrt_at l o i m K Hw.out.1 Hw.out.2 hq] at this
  exact this
end Go.Proofs.Ytlhdcajamempoaa
/-
The document's tables: a number of one, a column. Conditions: as each says.
-/
set_option linter.unusedVariables false
set_option linter.unusedSimpArgs false
set_option linter.unnecessarySimpa false
namespace Go.Proofs.Ytlhdcajamempoaa
open Go.RowKit
attribute [local go_sem ↓] Go.wp_at_zero Go.wp_at_succ

/-- A number of a table. -/
theorem rat7_any (R C gT N cT : Nat) (T : List Nat) (a b : Nat) (w : World) (hT : Row w (some ⟨gT, 0, none⟩) (f64s T)) (hTl : T.length = N) (hN : N < 1048576) (hab : a * C + b < N) :
    Calls Try.prog 60 #[.agg #[.int .i64 R, .int .i64 C, .slice (some ⟨gT, 0, none⟩) N cT], .int .i64 (a : Int), .int .i64 (b : Int)] w fun e w' => e = .returned (.float .f64 (T.getD (a * C + b) 0)) ∧ Below w.heap.size w w' := by
  have hPl : a * C + b < T.length := by rw [hTl]; exact hab
  obtain ⟨gb, x, hgx, _, hcell0⟩ := hT.at_ (f64s_get T _ hPl)
  injection hgx with hgx
  injection hgx with hg1 hg2
  subst hg1
  subst hg2
  have hv : T.getD (a * C + b) 0 = T[a * C + b] := getD_of_lt hPl
  rw [hv]
  have HB := Lib.hid ((Below.refl w.heap.size w).alloc (Nat.le_refl _) (.cells #[.int .i64 R, .int .i64 C, .slice (some ⟨gT, 0, none⟩) N cT] 47))
  have hcell := cell_below hcell0 HB.out
  generalize T[a * C + b] = v at *
  obtain ⟨p, hp⟩ : ∃ p, a * C = p := ⟨_, rfl⟩
  obtain ⟨P, hPd⟩ : ∃ P, p + b = P := ⟨_, rfl⟩
  have e1 : ((a : Int) * (C : Int)) = (p : Int) := by rw [← hp]; simp
  have e2 : (p : Int) + (b : Int) = (P : Int) := by rw [← hPd]; simp
  have hPN : P < N := by rw [← hPd, ← hp]; exact hab
  have HW := Lib.hid (wrap3 (o := b) (a := p) (P := P) (by omega) (by rw [← hPd, Nat.add_comm]))
  rw [hp, hPd, Nat.zero_add] at hcell
  have b1 : (P : Int) < (N : Int) := by omega
  have b0 : (0 : Int) ≤ (P : Int) := by omega
  have b2 := hPN
  clear hPl hcell0 hv hp hPd hPN hT hTl hab
  obtain ⟨u1, u2, u3, u4⟩ := HW.out
  go_enter Try.func60, Try.ntmps60
  go_wp2_with fail
  go_ret
  exact ⟨rfl, HB.out⟩

end Go.Proofs.Ytlhdcajamempoaa
/-
The document's Mul, Abs. Conditions: the lists have fewer than 2^20 numbers.
-/
set_option linter.unusedVariables false
set_option linter.unusedSimpArgs false
set_option linter.unnecessarySimpa false
namespace Go.Proofs.Ytlhdcajamempoaa
open Go.RowKit
attribute [local go_sem ↓] Go.wp_at_zero Go.wp_at_succ

def RMulS (a : Nat) (T : List Nat) (C : Nat) (X : List Nat) (q k s r : Nat) : Prop := ∃ p, MulR a (T.getD (q * C + k) 0) (X.getD k 0) p ∧ Comes .add s p r
def RAbsS (T : List Nat) (C : Nat) (X : List Nat) (q k s r : Nat) : Prop := ∃ p, AbsR (T.getD (q * C + k) 0) (X.getD k 0) p ∧ Comes .add s p r
def RMulQ (a b : Nat) (T : List Nat) (C : Nat) (X Y : List Nat) (q r : Nat) : Prop := ∃ s, BegR b (Y.getD q 0) s ∧ Chn (RMulS a T C X q) s C r
def RAbsQ (T : List Nat) (C : Nat) (X Y : List Nat) (q r : Nat) : Prop := Chn (RAbsS T C X q) (Y.getD q 0) C r

end Go.Proofs.Ytlhdcajamempoaa
/-
The document's MulT. Conditions: the lists have fewer than 2^20 numbers.
-/
set_option linter.unusedVariables false
set_option linter.unusedSimpArgs false
set_option linter.unnecessarySimpa false
namespace Go.Proofs.Ytlhdcajamempoaa
open Go.RowKit
attribute [local go_sem ↓] Go.wp_at_zero Go.wp_at_succ

/-- What MulT makes of a number. -/
def RTurnQ (a b : Nat) (T : List Nat) (R C : Nat) (X Y : List Nat) (q r : Nat) : Prop := ∃ s, BegR b (Y.getD q 0) s ∧ TurnR a (dotF (lst T q C R) X R) s r
/-- A value is a list of these numbers. -/
def RowS (W : World) (v : Value) (n : Nat) (l : List Nat) : Prop := ∃ B d, v = .slice B n d ∧ Row W B (f64s l)
theorem RowS.below {W W' : World} {v : Value} {n : Nat} {l : List Nat} (h : RowS W v n l) (hb : Below W.heap.size W W') : RowS W' v n l := by
  obtain ⟨B, d, h1, h2⟩ := h
  exact ⟨B, d, h1, Row.below h2 hb⟩

end Go.Proofs.Ytlhdcajamempoaa
