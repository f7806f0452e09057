/-
Gemv: MulT, no error. Conditions: as it says.
-/
import Derived.Test.YtodoibioedelgaaZGvE
import Derived.Test.YtodoibioedelgaaGu
set_option linter.unusedVariables false
set_option linter.unusedSimpArgs false
set_option linter.unnecessarySimpa false
namespace Go.Proofs.Ytodoibioedelgaa
open Go.RowKit
attribute [local go_sem ↓] Go.wp_at_zero Go.wp_at_succ


set_option maxRecDepth 100000 in
set_option maxHeartbeats 2000000 in
theorem gvmult_ok (a b : Nat) (g c n : Nat) (l : List Nat) (o K i : Nat) (gm cm nm : Nat) (lm : List Nat) (om R L : Nat) (gx cx nx : Nat) (lx : List Nat) (ox ix : Nat) (w : World)
    (hO : Own w g l) (hl : l.length = n) (hn : n < 1048576) (hi1 : 1 ≤ i) (hr : K = 0 ∨ o + (K - 1) * i < n)
    (hgl : gm = g → n = nm) (hgx : gx = g → n = nx) (hM : Own w gm lm) (hlm : lm.length = nm) (hnm : nm < 1048576) (hL1 : 1 ≤ L) (hKL : R ≤ L) (hmr : R = 0 ∨ K = 0 ∨ om + (K - 1) * L + (R - 1) < nm) (hWm : Wds lm)
    (hX : Own w gx lx) (hlx : lx.length = nx) (hnx : nx < 1048576) (hix : 1 ≤ ix) (hxr : R = 0 ∨ ox + (R - 1) * ix < nx) (hWx : Wds lx) (hom : I64 om) (hLI : I64 L) (hox : I64 ox) (hixI : I64 ix) (hKb : K < 1048576) (hCb : R < 1048576)
    (hdm : gm = g → ∀ a, a < R → ∀ b, b < K → ∀ q, q < K → om + b * L + a ≠ o + q * i) (hdx : gx = g → ∀ b, b < R → ∀ q, q < K → ox + b * ix ≠ o + q * i)
    (hFit : ∀ W, Below w.heap.size w W → Calls Try.prog 36 #[mat (some ⟨gm, 0, none⟩) nm cm om R K L, vec (some ⟨gx, 0, none⟩) nx cx ox R ix, vec (some ⟨g, 0, none⟩) n c o K i, .int .i64 (R : Int), .int .i64 (K : Int)] W fun e w' => e = .returned (.int .i64 0) ∧ Below W.heap.size W w') :
    Calls Try.prog 13 #[.float .f64 a, mat (some ⟨gm, 0, none⟩) nm cm om R K L, vec (some ⟨gx, 0, none⟩) nx cx ox R ix, .float .f64 b, vec (some ⟨g, 0, none⟩) n c o K i] w fun e w' => e = .returned (.int .i64 0) ∧
      ∃ m : List Nat, m.length = K ∧ (∀ q, q < K → TurnQ a b l o i lm om R L lx ox ix q (m.getD q 0)) ∧ Own w' g (wrt l o i m K) ∧ Chg [g] w w' := by
  have hRn : ∀ q, q < K → o + q * i < n := fun q hq => by
    rcases hr with h0 | h0
    · omega
    · exact place_lt h0 hq
  have HFt := Lib.hid hFit
  have HBg := Lib.hid (fun W (hb : Below w.heap.size w W) => gvbegin_any b g c l n o K i (fun W => (MLst W gm nm lm om R K L ∧ VLst W gx nx lx ox R ix)) W (hO.nxt hb) hl hn hi1 hr ⟨⟨lm, hM.nxt hb, hlm, hWm, fun _ _ _ _ => rfl⟩, ⟨lx, hX.nxt hb, hlx, hWx, fun _ _ => rfl⟩⟩ (fun W W' h hb' => ⟨h.1.nxt hb', h.2.nxt hb'⟩) (fun W q v hq hv h => ⟨h.1.set_ (n' := 0) (fun e => by have h1 := hRn q hq; have h2 := hgl e; omega) hv (fun e a ha b hb => hdm e a ha b hb q hq), h.2.set_ (n' := 0) (fun e => by have h1 := hRn q hq; have h2 := hgx e; omega) hv (fun e b hb => hdx e b hb q hq)⟩))
  have HCl := fun W (q : Nat) (hq : q < K) => vcol_some (some ⟨gm, 0, none⟩) nm cm (om : Int) (R : Int) (K : Int) (L : Int) (q : Int) W (by omega) hom (by unfold I64; omega) (by unfold I64; omega) hLI (by unfold I64; omega) (mat_right hL1 hKL hmr) (by omega)
  have hvx : vecB nx (ox : Int) (R : Int) (ix : Int) = true := vec_right hix hxr
  have HCo := Lib.hid (fun W (l1 : List Nat) (pa pm px : Nat) (hp : pa ≠ g) (hp1 : pm ≠ g) (hp2 : px ≠ g) (hl1 : l1.length = n) (h1 : Own W g l1) (hI : (MLst W gm nm lm om R K L ∧ VLst W gx nx lx ox R ix)) (hA : W.cell? ⟨pa, 0, none⟩ = some (.float .f64 a))
      (hBm : Blk W pm 25 #[.slice (some ⟨gm, 0, none⟩) nm cm, .int .i64 (om : Int), .int .i64 (R : Int), .int .i64 (K : Int), .int .i64 (L : Int)]) (hBx : Blk W px 27 #[.slice (some ⟨gx, 0, none⟩) nx cx, .int .i64 (ox : Int), .int .i64 (R : Int), .int .i64 (ix : Int)]) =>
    gveach_any 41 #[.pointer (some ⟨pm, 0, none⟩), .pointer (some ⟨px, 0, none⟩), .pointer (some ⟨pa, 0, none⟩)]
      (fun W => (MLst W gm nm lm om R K L ∧ VLst W gx nx lx ox R ix) ∧ W.cell? ⟨pa, 0, none⟩ = some (.float .f64 a) ∧ Blk W pm 25 #[.slice (some ⟨gm, 0, none⟩) nm cm, .int .i64 (om : Int), .int .i64 (R : Int), .int .i64 (K : Int), .int .i64 (L : Int)] ∧ Blk W px 27 #[.slice (some ⟨gx, 0, none⟩) nx cx, .int .i64 (ox : Int), .int .i64 (R : Int), .int .i64 (ix : Int)])
      (fun q r => TurnR a (dotF (lst lm (om + q * L) 1 R) (lst lx ox ix R) R) (l1.getD (o + q * i) 0) r) g n c l1 o K i W (fun args W => gvmult_enters args W) h1 hl1 hn hi1 hr ⟨hI, hA, hBm, hBx⟩
      (fun W W' h hb' => ⟨⟨h.1.1.nxt hb', h.1.2.nxt hb'⟩, cell_below h.2.1 hb', h.2.2.1.nxt hb', h.2.2.2.nxt hb'⟩)
      (fun W q v hq hR h => by
        have hv : v < 18446744073709551616 := by
          obtain ⟨_, _, _, _, h5⟩ := hR
          exact h5.1
        exact ⟨(fun (h : (MLst W gm nm lm om R K L ∧ VLst W gx nx lx ox R ix)) => ⟨h.1.set_ (n' := 0) (fun e => by have h1 := hRn q hq; have h2 := hgl e; omega) hv (fun e a ha b hb => hdm e a ha b hb q hq), h.2.set_ (n' := 0) (fun e => by have h1 := hRn q hq; have h2 := hgx e; omega) hv (fun e b hb => hdx e b hb q hq)⟩) h.1, (cell_set hp _).trans h.2.1, h.2.2.1.other hp1 _, h.2.2.2.other hp2 _⟩)
      (fun W q hq h => by
        obtain ⟨O, hO1, hO2⟩ : ∃ O : Nat, colOff (om : Int) (R : Int) (L : Int) (q : Int) = (O : Int) ∧ ((0 < R ∧ O = om + q * L) ∨ (R = 0 ∧ O = om)) := by
          unfold colOff
          by_cases e : R = 0
          · exact ⟨om, by rw [if_pos (by omega)], .inr ⟨e, rfl⟩⟩
          · exact ⟨om + q * L, by rw [if_neg (by omega)]; simp, .inl ⟨by omega, rfl⟩⟩
        have HC1 := fun W => HCl W q hq
        rw [hO1] at HC1
        have hO3 : R = 0 ∨ O + (R - 1) * 1 < nm := by
          rcases Nat.eq_zero_or_pos R with e | e
          · exact .inl e
          · right
            have := mat_lt hmr (show R - 1 < R by omega) hq
            omega
        have hOm : (O : Int) < 9223372036854775808 := by
          rcases hO2 with ⟨e0, e⟩ | ⟨_, e⟩
          · rcases hO3 with e3 | e3 <;> omega
          · unfold I64 at hom; omega
        have hvm : vecB nm (O : Int) (R : Int) ((1 : Nat) : Int) = true := vec_right (Nat.le_refl _) hO3
        have := gvmult_one a (l1.getD (o + q * i) 0) pa pm px gm cm nm om R K L gx cx nx ox ix q O (dotF (lst lm (om + q * L) 1 R) (lst lx ox ix R) R) (fun W => (MLst W gm nm lm om R K L ∧ VLst W gx nx lx ox R ix)) W h.1 (fun W W' h hb' => ⟨h.1.nxt hb', h.2.nxt hb'⟩) h.2.1 h.2.2.1 h.2.2.2 HC1 (fun W hi => by
          obtain ⟨⟨l2, a1, a2, a3, a4⟩, ⟨l3, b1, b2, b3, b4⟩⟩ := hi
          have := dot_ok (some ⟨gm, 0, none⟩) (some ⟨gx, 0, none⟩) nm cm l2 O R 1 nx cx l3 ox ix W a1.row b1.row a3 b3 a2 b2 hnm hnx hO3 hxr (by omega) hvm hvx (by unfold I64; omega) (by unfold I64; omega) hox hixI
          have e1 : lst l2 O 1 R = lst lm (om + q * L) 1 R := by
            rcases hO2 with ⟨_, rfl⟩ | ⟨rfl, rfl⟩
            · exact lst_congr fun j hj => by have := a4 j hj q hq; rw [Nat.mul_one]; exact this
            · rfl
          have e2 : lst l3 ox ix R = lst lx ox ix R := lst_congr fun j hj => b4 j hj
          rw [e1, e2] at this
          exact this)
        exact this))
  have Hw := Lib.hid (And.intro hi1 (show K = 0 ∨ o + (K - 1) * i < l.length by rw [hl]; exact hr))
  have Hl := Lib.hid hl
  have Hg := Lib.hid (show g < w.heap.size from hO.lt)
  clear hO hl hn hi1 hr hM hlm hnm hL1 hKL hmr hWm hX hlx hnx hix hxr hWx hom hLI hox hixI hdm hdx hFit hRn hKb hCb hgl hgx HCl hvx
  unfold mat vec at *
  go_enter Try.func13, Try.ntmps13
  have HA0 := Lib.hid ((((Blk.new_ w 22 #[.float .f64 a] (w.heap.size) (by simp)).alloc (.cells #[.slice (some ⟨gm, 0, none⟩) nm cm, .int .i64 om, .int .i64 R, .int .i64 K, .int .i64 L] 25)).alloc (.cells #[.slice (some ⟨gx, 0, none⟩) nx cx, .int .i64 ox, .int .i64 R, .int .i64 ix] 27)).alloc (.cells #[.slice (some ⟨g, 0, none⟩) n c, .int .i64 o, .int .i64 K, .int .i64 i] 27))
  have HM0 := Lib.hid (((Blk.new_ (w.alloc (.cells #[.float .f64 a] 22)) 25 #[.slice (some ⟨gm, 0, none⟩) nm cm, .int .i64 om, .int .i64 R, .int .i64 K, .int .i64 L] (w.heap.size + 1) (by simp)).alloc (.cells #[.slice (some ⟨gx, 0, none⟩) nx cx, .int .i64 ox, .int .i64 R, .int .i64 ix] 27)).alloc (.cells #[.slice (some ⟨g, 0, none⟩) n c, .int .i64 o, .int .i64 K, .int .i64 i] 27))
  have HX0 := Lib.hid ((Blk.new_ ((w.alloc (.cells #[.float .f64 a] 22)).alloc (.cells #[.slice (some ⟨gm, 0, none⟩) nm cm, .int .i64 om, .int .i64 R, .int .i64 K, .int .i64 L] 25)) 27 #[.slice (some ⟨gx, 0, none⟩) nx cx, .int .i64 ox, .int .i64 R, .int .i64 ix] (w.heap.size + 1 + 1) (by simp)).alloc (.cells #[.slice (some ⟨g, 0, none⟩) n c, .int .i64 o, .int .i64 K, .int .i64 i] 27))
  have HY0 := Lib.hid (Blk.new_ (((w.alloc (.cells #[.float .f64 a] 22)).alloc (.cells #[.slice (some ⟨gm, 0, none⟩) nm cm, .int .i64 om, .int .i64 R, .int .i64 K, .int .i64 L] 25)).alloc (.cells #[.slice (some ⟨gx, 0, none⟩) nx cx, .int .i64 ox, .int .i64 R, .int .i64 ix] 27)) 27 #[.slice (some ⟨g, 0, none⟩) n c, .int .i64 o, .int .i64 K, .int .i64 i] (w.heap.size + 1 + 1 + 1) (by simp))
  have HB0 := Lib.hid (((((Below.refl w.heap.size w).alloc (Nat.le_refl _) (.cells #[.float .f64 a] 22)).alloc (by simp) (.cells #[.slice (some ⟨gm, 0, none⟩) nm cm, .int .i64 om, .int .i64 R, .int .i64 K, .int .i64 L] 25)).alloc (by simp; omega) (.cells #[.slice (some ⟨gx, 0, none⟩) nx cx, .int .i64 ox, .int .i64 R, .int .i64 ix] 27)).alloc (by simp; omega) (.cells #[.slice (some ⟨g, 0, none⟩) n c, .int .i64 o, .int .i64 K, .int .i64 i] 27))
  obtain ⟨m0, m1, m2, m3, m4⟩ := cells5 HM0.out
  obtain ⟨x0, x1, x2, x3⟩ := cells4w HX0.out
  obtain ⟨y0, y1, y2, y3⟩ := cells4w HY0.out
  go_wp2_with fail
  refine (HFt.out _ HB0.out).mono ?_
  rintro e w1 ⟨rfl, hb⟩
  have HB1 := Lib.hid (below_nx HB0.out hb)
  have HM1 := Lib.hid (HM0.out.nxt hb)
  have HX1 := Lib.hid (HX0.out.nxt hb)
  have HY1 := Lib.hid (HY0.out.nxt hb)
  have HA1 := Lib.hid (HA0.out.nxt hb)
  clear hb m0 m1 m2 m3 m4 x0 x1 x2 x3 y0 y1 y2 y3
  obtain ⟨m0, m1, m2, m3, m4⟩ := cells5 HM1.out
  obtain ⟨x0, x1, x2, x3⟩ := cells4w HX1.out
  obtain ⟨y0, y1, y2, y3⟩ := cells4w HY1.out
  go_wp2_with fail
  refine (HBg.out _ HB1.out).mono ?_
  rintro e w2 ⟨rfl, m, hm1, hm2, hm3, hm4, hm5⟩
  have HN := Lib.hid (And.intro hm1 (And.intro hm2 (And.intro hm3 (And.intro hm4 hm5))))
  have hng : ∀ p, w.heap.size ≤ p → p ∉ [g] := fun p hp => by simp; have := Hg.out; omega
  have HM2 := Lib.hid (hm5.blk (hng _ (by omega)) HM1.out)
  have HX2 := Lib.hid (hm5.blk (hng _ (by omega)) HX1.out)
  have HY2 := Lib.hid (hm5.blk (hng _ (by omega)) HY1.out)
  have HA2 := Lib.hid (hm5.blk (hng _ (by omega)) HA1.out)
  clear hm1 hm2 hm3 hm4 hm5 hng m0 m1 m2 m3 m4 x0 x1 x2 x3 y0 y1 y2 y3
  obtain ⟨m0, m1, m2, m3, m4⟩ := cells5 HM2.out
  obtain ⟨x0, x1, x2, x3⟩ := cells4w HX2.out
  obtain ⟨y0, y1, y2, y3⟩ := cells4w HY2.out
  go_wp2_with fail
  refine (HCo.out _ _ _ _ _ (by have := Hg.out; omega) (by have := Hg.out; omega) (by have := Hg.out; omega) (by rw [wrt_length, Hl.out]) HN.out.2.2.1 HN.out.2.2.2.1 (HA2.out.cell 0) HM2.out HX2.out).mono ?_
  rintro e w3 ⟨rfl, m', hp1, hp2, hp3, hp4, hp5⟩
  have HQ := Lib.hid (And.intro hp1 (And.intro hp2 (And.intro hp3 hp5)))
  clear hp1 hp2 hp3 hp5 hp4 m0 m1 m2 m3 m4 x0 x1 x2 x3 y0 y1 y2 y3
  go_wp2_with fail
  go_ret
  obtain ⟨k1, k2, k3, k4⟩ := HQ.out
  obtain ⟨n1, n2, n3, n4, n5⟩ := HN.out
  rw [wrt_wrt l o i m m' K Hw.out.1 Hw.out.2] at k3
  refine ⟨rfl, m', k1, fun q hq => ⟨m.getD q 0, n2 q hq, ?_⟩, k3, ((Chg.of_below HB1.out).trans n5).trans k4⟩
  have := k2 q hq
  rw [wrt_at l o i m K Hw.out.1 Hw.out.2 hq] at this
  exact this
end Go.Proofs.Ytodoibioedelgaa
/-
The document's tables: a number of one, a column. Conditions: as each says.
-/
set_option linter.unusedVariables false
set_option linter.unusedSimpArgs false
set_option linter.unnecessarySimpa false
namespace Go.Proofs.Ytodoibioedelgaa
open Go.RowKit
attribute [local go_sem ↓] Go.wp_at_zero Go.wp_at_succ

/-- A number of a table. -/
theorem rat7_any (R C gT N cT : Nat) (T : List Nat) (a b : Nat) (w : World) (hT : Row w (some ⟨gT, 0, none⟩) (f64s T)) (hTl : T.length = N) (hN : N < 1048576) (hab : a * C + b < N) :
    Calls Try.prog 28 #[.agg #[.int .i64 R, .int .i64 C, .slice (some ⟨gT, 0, none⟩) N cT], .int .i64 (a : Int), .int .i64 (b : Int)] w fun e w' => e = .returned (.float .f64 (T.getD (a * C + b) 0)) ∧ Below w.heap.size w w' := by
  have hPl : a * C + b < T.length := by rw [hTl]; exact hab
  obtain ⟨gb, x, hgx, _, hcell0⟩ := hT.at_ (f64s_get T _ hPl)
  injection hgx with hgx
  injection hgx with hg1 hg2
  subst hg1
  subst hg2
  have hv : T.getD (a * C + b) 0 = T[a * C + b] := getD_of_lt hPl
  rw [hv]
  have HB := Lib.hid ((Below.refl w.heap.size w).alloc (Nat.le_refl _) (.cells #[.int .i64 R, .int .i64 C, .slice (some ⟨gT, 0, none⟩) N cT] 40))
  have hcell := cell_below hcell0 HB.out
  generalize T[a * C + b] = v at *
  obtain ⟨p, hp⟩ : ∃ p, a * C = p := ⟨_, rfl⟩
  obtain ⟨P, hPd⟩ : ∃ P, p + b = P := ⟨_, rfl⟩
  have e1 : ((a : Int) * (C : Int)) = (p : Int) := by rw [← hp]; simp
  have e2 : (p : Int) + (b : Int) = (P : Int) := by rw [← hPd]; simp
  have hPN : P < N := by rw [← hPd, ← hp]; exact hab
  have HW := Lib.hid (wrap3 (o := b) (a := p) (P := P) (by omega) (by rw [← hPd, Nat.add_comm]))
  rw [hp, hPd, Nat.zero_add] at hcell
  have b1 : (P : Int) < (N : Int) := by omega
  have b0 : (0 : Int) ≤ (P : Int) := by omega
  have b2 := hPN
  clear hPl hcell0 hv hp hPd hPN hT hTl hab
  obtain ⟨u1, u2, u3, u4⟩ := HW.out
  go_enter Try.func28, Try.ntmps28
  go_wp2_with fail
  go_ret
  exact ⟨rfl, HB.out⟩

set_option maxRecDepth 100000 in
set_option maxHeartbeats 1000000 in
theorem rcolL_any (R C gT N cT : Nat) (T : List Nat) (b : Nat) (w : World) (hT : Row w (some ⟨gT, 0, none⟩) (f64s T)) (hTl : T.length = N) (hN : N < 1048576) (hRC : R * C = N) (hb : b < C) (hR : R < 1048576) :
    Calls Try.prog 57 #[.agg #[.int .i64 R, .int .i64 C, .slice (some ⟨gT, 0, none⟩) N cT], .int .i64 (b : Int)] w (RetL (fun q r => r = T.getD (q * C + b) 0) R w) := by
  obtain ⟨i0, hi, hz0, hz1, hz2⟩ := fi0
  have HTr := Lib.hid hT
  have HAt0 := Lib.hid (fun W (q : Nat) (hq : q < R) (h : Row W (some ⟨gT, 0, none⟩) (f64s T)) => rat7_any R C gT N cT T q b W h hTl hN (by rw [← hRC]; exact tab_lt hq hb))
  clear hT hTl hN hRC hb
  go_enter Try.func57, Try.ntmps57
  have HZ := Lib.hid (Blk.new w 40 #[.int .i64 R, .int .i64 C, .slice (some ⟨gT, 0, none⟩) N cT])
  have hb0 : Below w.heap.size w (w.alloc (.cells #[.int .i64 R, .int .i64 C, .slice (some ⟨gT, 0, none⟩) N cT] 40)) := (Below.refl w.heap.size w).alloc (Nat.le_refl _) (.cells #[.int .i64 R, .int .i64 C, .slice (some ⟨gT, 0, none⟩) N cT] 40)
  have HTr1 := Lib.hid (HTr.out.below hb0)
  clear HTr
  have HB0 := Lib.hid hb0
  clear hb0
  go_wp2_with fail
  generalize hw1 : w.alloc (.cells #[.int .i64 R, .int .i64 C, .slice (some ⟨gT, 0, none⟩) N cT] 40) = w1 at *
  have Hz := Lib.hid (show w.heap.size < w1.heap.size from HZ.out.lt)
  generalize hzt : w.heap.size = zt at *
  have Hzt := Lib.hid hzt
  clear hw1 hzt
  go_loopw [5, 6] (fun out i wr => ∃ (q : Nat) (L : List Nat), q ≤ R ∧ i = .int .i64 q ∧ Hid (L.length = q ∧ ∀ j, j < q → (fun q r => r = T.getD (q * C + b) 0) j (L.getD j 0)) ∧ wr.ownsRow w1.heap.size 22 1 out q (f64s L) ∧ Below w1.heap.size w1 wr) (fun _ i _ => R - (intOf i).toNat)
  case atStart => exact ⟨0, [], Nat.zero_le _, rfl, Lib.hid ⟨rfl, fun j h => by omega⟩, World.ownsRow_nil _ _ _ _, Below.refl _ _⟩
  case round =>
    obtain ⟨q, L, hq, rfl, HL, hown, hbl⟩ := hrel
    have HBl := Lib.hid hbl
    have HOw0 := Lib.hid hown
    clear hown hbl
    obtain ⟨t0, t1, t2⟩ := cells3v (HZ.out.below HBl.out HZ.out.lt)
    by_cases hlt : q < R
    · have hqc : (q : Int) < (R : Int) := by omega
      have hq1 : q + 1 ≤ 1048576 := by omega
      have HAt := Lib.hid (HAt0.out wr q hlt (HTr1.out.below HBl.out))
      have HR := Lib.hid (show (T.getD (q * C + b) 0) = T.getD (q * C + b) 0 from rfl)
      obtain ⟨v, hv⟩ : ∃ v, T.getD (q * C + b) 0 = v := ⟨_, rfl⟩
      have HRv := Lib.hid hv
      rw [hv] at HAt
      clear hv HR
      go_wp2_with fail
      refine HAt.out.mono ?_
      rintro e wt ⟨rfl, hbt⟩
      have HR := Lib.hid HRv.out.symm
      have HOwW := Lib.hid (ownsRow_below HOw0.out hbt)
      have HBlW := Lib.hid (below_nx HBl.out hbt)
      clear hbt t0 t1 t2
      have HN := Lib.hid (Blk.new wt 22 #[.float .f64 v])
      have HOw2 := Lib.hid (HOwW.out.alloc (.cells #[.float .f64 v] 22))
      go_wp2_with (at_builtin; refine wpList_append_own _ rfl _ _ 23 rfl w1.heap.size 22 i0 (.float .f64 0) 1 8 Try.underlying23 hi hz0 hz1 hz2 rfl (by decide) _ q (f64s L) rfl HOw2.out ⟨wt.heap.size, 0, none⟩ 1 1 [.float .f64 v] rfl rfl ?c1 (by intro u hu; simp at hu; subst hu; rfl) ?c3 ?c4 ?c5 ?_)
      case c1 =>
        intro j u hj
        match j, hj with
        | 0, hj =>
          have : u = .float .f64 v := by simpa using hj.symm
          subst this
          exact HN.out.cell 0
        | j + 1, hj => simp at hj
      case c3 => unfold maxLen; omega
      case c4 => omega
      case c5 => (try simp); have := HBlW.out.size; omega
      intro v' w' hown' hgrow _
      have HOw3 := Lib.hid (show w'.ownsRow w1.heap.size 22 1 v' (q + 1) (f64s (L ++ [v])) by rw [f64s_snoc]; exact hown')
      have HBl3 := Lib.hid ((HBlW.out.alloc HBlW.out.size (.cells #[.float .f64 v] 22)).grown hgrow (by simp; have := HBlW.out.size; omega) (fun k hk => by have := (HOw2.out.lt k hk).1; omega))
      clear hown' hgrow
      go_wp2_with fail
      go_roundw
      case rel => exact ⟨q + 1, L ++ [v], by omega, by go_num, Lib.hid ⟨by simp [HL.out.1], AxQ_all (R := (fun q r => r = T.getD (q * C + b) 0)) HL.out.1 HL.out.2 HR.out⟩, HOw3.out, HBl3.out⟩
      case measure => simp [intOf]; omega
    · obtain rfl : q = R := by omega
      have hqc : ¬ (q : Int) < (q : Int) := by omega
      obtain ⟨B9, d9, rfl, hrow⟩ := own_row HOw0.out HL.out.1.symm
      have HRow := Lib.hid hrow
      clear hrow
      go_wp2_with fail
      go_ret
      exact ⟨B9, d9, L, rfl, HL.out.1, HL.out.2, HRow.out, below_nx (by rw [Hzt.out]; exact HB0.out) HBl.out⟩

theorem rcol_any (R C gT N cT : Nat) (T : List Nat) (b : Nat) (w : World) (hT : Row w (some ⟨gT, 0, none⟩) (f64s T)) (hTl : T.length = N) (hN : N < 1048576) (hRC : R * C = N) (hb : b < C) (hR : R < 1048576) :
    Calls Try.prog 57 #[.agg #[.int .i64 R, .int .i64 C, .slice (some ⟨gT, 0, none⟩) N cT], .int .i64 (b : Int)] w fun e w' => ∃ B d, e = .returned (.slice B R d) ∧ Row w' B (f64s (lst T b C R)) ∧ Below w.heap.size w w' := by
  refine (rcolL_any R C gT N cT T b w hT hTl hN hRC hb hR).mono ?_
  rintro e w' ⟨B, d, m, h1, h2, h3, h4, h5⟩
  have : m = lst T b C R := ext_getD (by rw [h2, lst_length]) fun j hj => by
    rw [h3 j (by omega), lst_getD T b C (by omega), Nat.add_comm]
  subst this
  exact ⟨B, d, h1, h4, h5⟩
theorem rgbegin_any (b y : Nat) (w : World) : Calls Try.prog 53 #[.float .f64 b, .float .f64 y] w fun e w' => ∃ r, e = .returned (.float .f64 r) ∧ BegR b y r ∧ Below w.heap.size w w' := by
  obtain ⟨z, hz⟩ : ∃ z, zB b = z := ⟨_, rfl⟩
  have HZ := Lib.hid (show ∀ r, (if z = true then r = 0 else Comes .mul b y r) → BegR b y r from fun r h => by unfold BegR; rw [hz]; exact h)
  have HTi := Lib.hid (fun W => rtimes_any b y W)
  unfold zB at hz
  cases z
  · go_enter Try.func53, Try.ntmps53
    go_wp2_with fail
    refine (HTi.out _).mono ?_
    rintro e w1 ⟨r, rfl, hr, hb⟩
    have HR := Lib.hid (And.intro hr hb)
    clear hr hb
    go_wp2_with fail
    go_ret
    exact ⟨r, rfl, HZ.out _ (by simpa using HR.out.1), HR.out.2⟩
  · go_enter Try.func53, Try.ntmps53
    go_wp2_with fail
    go_ret
    exact ⟨_, rfl, HZ.out _ (by simp), Below.refl _ _⟩
end Go.Proofs.Ytodoibioedelgaa
