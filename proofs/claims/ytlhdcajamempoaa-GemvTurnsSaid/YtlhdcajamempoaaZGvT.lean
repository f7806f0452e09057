/-
Gemv: Mul, MulT, where the vector lies anywhere but in what is written. Conditions: as each says.
-/
import Derived.Test.YtlhdcajamempoaaGv
import Derived.Test.YtlhdcajamempoaaZGvS
set_option linter.unusedVariables false
set_option linter.unusedSimpArgs false
set_option linter.unnecessarySimpa false
namespace Go.Proofs.Ytlhdcajamempoaa
open Go.RowKit
attribute [local go_sem ↓] Go.wp_at_zero Go.wp_at_succ

def RowY (W : World) (g y : Nat) (l : List Nat) : Prop := Row W (some ⟨g, y, none⟩) (f64s l)
theorem RowY.below {W W' : World} {g y : Nat} {l : List Nat} (h : RowY W g y l) (hb : Below W.heap.size W W') : RowY W' g y l := Row.below h hb
theorem row_set2 {W : World} {g g' y p : Nat} {l : List Nat} (h : RowY W g y l) (hd : g ≠ g') (u : Value) : RowY (W.setCell ⟨g', p, none⟩ u) g y l := by
  rcases h with h | ⟨b, o, e, hc⟩
  · exact .inl h
  · injection e with e
    injection e with e1 e2
    subst e1
    exact .inr ⟨g, o, by rw [e2], fun j u hj => (cell_set hd _).trans (hc j u hj)⟩

set_option maxRecDepth 100000 in
set_option maxHeartbeats 2000000 in
theorem gvmul_ok2 (a b : Nat) (g c n : Nat) (l : List Nat) (o K i : Nat) (gm cm nm : Nat) (lm : List Nat) (om C L : Nat) (gx yx cx nx : Nat) (lx : List Nat) (ox ix : Nat) (w : World)
    (hO : Own w g l) (hl : l.length = n) (hn : n < 1048576) (hi1 : 1 ≤ i) (hr : K = 0 ∨ o + (K - 1) * i < n)
    (hM : Own w gm lm) (hlm : lm.length = nm) (hnm : nm < 1048576) (hL1 : 1 ≤ L) (hKL : K ≤ L) (hmr : K = 0 ∨ C = 0 ∨ om + (C - 1) * L + (K - 1) < nm) (hWm : Wds lm)
    (hX : Row w (some ⟨gx, yx, none⟩) (f64s lx)) (hlx : lx.length = nx) (hnx : nx < 1048576) (hix : 1 ≤ ix) (hxr : C = 0 ∨ ox + (C - 1) * ix < nx) (hWx : Wds lx) (hom : I64 om) (hLI : I64 L) (hox : I64 ox) (hixI : I64 ix) (hKb : K < 1048576) (hCb : C < 1048576)
    (hdm : gm = g → ∀ a, a < K → ∀ b, b < C → ∀ q, q < K → om + b * L + a ≠ o + q * i) (hdx : gx ≠ g)
    (hFit : ∀ W, Below w.heap.size w W → Calls Try.prog 45 #[mat (some ⟨gm, 0, none⟩) nm cm om K C L, vec (some ⟨gx, yx, none⟩) nx cx ox C ix, vec (some ⟨g, 0, none⟩) n c o K i, .int .i64 (C : Int), .int .i64 (K : Int)] W fun e w' => e = .returned (.int .i64 0) ∧ Below W.heap.size W w') :
    Calls Try.prog 11 #[.float .f64 a, mat (some ⟨gm, 0, none⟩) nm cm om K C L, vec (some ⟨gx, yx, none⟩) nx cx ox C ix, .float .f64 b, vec (some ⟨g, 0, none⟩) n c o K i] w fun e w' => e = .returned (.int .i64 0) ∧
      ∃ m : List Nat, m.length = K ∧ (∀ q, q < K → MulQ a b l o i lm om C L lx ox ix q (m.getD q 0)) ∧ Own w' g (wrt l o i m K) ∧ Chg [g] w w' := by
  have hRn : ∀ q, q < K → o + q * i < n := fun q hq => by
    rcases hr with h0 | h0
    · omega
    · exact place_lt h0 hq
  have HFt := Lib.hid hFit
  have HBg := Lib.hid (fun W (hb : Below w.heap.size w W) => gvbegin_any b g c l n o K i (fun W => (MCells W gm lm om K C L ∧ VCellsY W gx yx lx ox C ix)) W (hO.nxt hb) hl hn hi1 hr ⟨(mcells_own hM hlm hmr).nxt hb, (vcellsY_row hX hlx hxr).nxt hb⟩ (fun W W' h hb' => ⟨h.1.nxt hb', h.2.nxt hb'⟩) (fun W q v hq hv h => ⟨h.1.set_ (fun e a ha b hb => hdm e a ha b hb q hq) _, h.2.far hdx _⟩))
  have HCo := Lib.hid (fun W (l1 : List Nat) (pa : Nat) (hp : pa ≠ g) (hl1 : l1.length = n) (h1 : Own W g l1) (hI : (MCells W gm lm om K C L ∧ VCellsY W gx yx lx ox C ix)) (hA : W.cell? ⟨pa, 0, none⟩ = some (.float .f64 a)) =>
    gvcols2_any 52 #[.pointer (some ⟨pa, 0, none⟩)] (fun W => W.cell? ⟨pa, 0, none⟩ = some (.float .f64 a)) (MulR a) g c n l1 o K i gm cm nm lm om C L gx yx cx nx lx ox ix W (fun args W => gvmul_enters args W) h1 hl1 hn hi1 hr
      hI.1 hnm hL1 hKL hmr hI.2 hnx hxr hom hLI hKb hCb hdm hdx hA (fun W W' h hb => cell_below h hb) (fun W q v hq h => (cell_set hp _).trans h)
      (fun W x f hx hf h => gvmul_one a (lm.getD (om + f * L + x) 0) (lx.getD (ox + f * ix) 0) pa W h))
  have Hw := Lib.hid (And.intro hi1 (show K = 0 ∨ o + (K - 1) * i < l.length by rw [hl]; exact hr))
  have Hl := Lib.hid hl
  have Hg := Lib.hid (show g < w.heap.size from hO.lt)
  clear hO hl hn hi1 hr hM hlm hnm hL1 hKL hmr hWm hX hlx hnx hix hxr hWx hom hLI hox hixI hdm hdx hFit hRn hKb hCb
  unfold mat vec at *
  go_enter Try.func11, Try.ntmps11
  have HA0 := Lib.hid ((((Blk.new_ w 28 #[.float .f64 a] (w.heap.size) (by simp)).alloc (.cells #[.slice (some ⟨gm, 0, none⟩) nm cm, .int .i64 om, .int .i64 K, .int .i64 C, .int .i64 L] 26)).alloc (.cells #[.slice (some ⟨gx, yx, none⟩) nx cx, .int .i64 ox, .int .i64 C, .int .i64 ix] 32)).alloc (.cells #[.slice (some ⟨g, 0, none⟩) n c, .int .i64 o, .int .i64 K, .int .i64 i] 32))
  have HM0 := Lib.hid (((Blk.new_ (w.alloc (.cells #[.float .f64 a] 28)) 26 #[.slice (some ⟨gm, 0, none⟩) nm cm, .int .i64 om, .int .i64 K, .int .i64 C, .int .i64 L] (w.heap.size + 1) (by simp)).alloc (.cells #[.slice (some ⟨gx, yx, none⟩) nx cx, .int .i64 ox, .int .i64 C, .int .i64 ix] 32)).alloc (.cells #[.slice (some ⟨g, 0, none⟩) n c, .int .i64 o, .int .i64 K, .int .i64 i] 32))
  have HX0 := Lib.hid ((Blk.new_ ((w.alloc (.cells #[.float .f64 a] 28)).alloc (.cells #[.slice (some ⟨gm, 0, none⟩) nm cm, .int .i64 om, .int .i64 K, .int .i64 C, .int .i64 L] 26)) 32 #[.slice (some ⟨gx, yx, none⟩) nx cx, .int .i64 ox, .int .i64 C, .int .i64 ix] (w.heap.size + 1 + 1) (by simp)).alloc (.cells #[.slice (some ⟨g, 0, none⟩) n c, .int .i64 o, .int .i64 K, .int .i64 i] 32))
  have HY0 := Lib.hid (Blk.new_ (((w.alloc (.cells #[.float .f64 a] 28)).alloc (.cells #[.slice (some ⟨gm, 0, none⟩) nm cm, .int .i64 om, .int .i64 K, .int .i64 C, .int .i64 L] 26)).alloc (.cells #[.slice (some ⟨gx, yx, none⟩) nx cx, .int .i64 ox, .int .i64 C, .int .i64 ix] 32)) 32 #[.slice (some ⟨g, 0, none⟩) n c, .int .i64 o, .int .i64 K, .int .i64 i] (w.heap.size + 1 + 1 + 1) (by simp))
  have HB0 := Lib.hid (((((Below.refl w.heap.size w).alloc (Nat.le_refl _) (.cells #[.float .f64 a] 28)).alloc (by simp) (.cells #[.slice (some ⟨gm, 0, none⟩) nm cm, .int .i64 om, .int .i64 K, .int .i64 C, .int .i64 L] 26)).alloc (by simp; omega) (.cells #[.slice (some ⟨gx, yx, none⟩) nx cx, .int .i64 ox, .int .i64 C, .int .i64 ix] 32)).alloc (by simp; omega) (.cells #[.slice (some ⟨g, 0, none⟩) n c, .int .i64 o, .int .i64 K, .int .i64 i] 32))
  obtain ⟨m0, m1, m2, m3, m4⟩ := cells5 HM0.out
  obtain ⟨x0, x1, x2, x3⟩ := cells4w HX0.out
  obtain ⟨y0, y1, y2, y3⟩ := cells4w HY0.out
  go_wp2_with fail
  refine (HFt.out _ HB0.out).mono ?_
  rintro e w1 ⟨rfl, hb⟩
  have HB1 := Lib.hid (below_nx HB0.out hb)
  have HM1 := Lib.hid (HM0.out.nxt hb)
  have HX1 := Lib.hid (HX0.out.nxt hb)
  have HY1 := Lib.hid (HY0.out.nxt hb)
  have HA1 := Lib.hid (HA0.out.nxt hb)
  clear hb m0 m1 m2 m3 m4 x0 x1 x2 x3 y0 y1 y2 y3
  obtain ⟨m0, m1, m2, m3, m4⟩ := cells5 HM1.out
  obtain ⟨x0, x1, x2, x3⟩ := cells4w HX1.out
  obtain ⟨y0, y1, y2, y3⟩ := cells4w HY1.out
  go_wp2_with fail
  refine (HBg.out _ HB1.out).mono ?_
  rintro e w2 ⟨rfl, m, hm1, hm2, hm3, hm4, hm5⟩
  have HN := Lib.hid (And.intro hm1 (And.intro hm2 (And.intro hm3 (And.intro hm4 hm5))))
  have hng : ∀ p, w.heap.size ≤ p → p ∉ [g] := fun p hp => by simp; have := Hg.out; omega
  have HM2 := Lib.hid (hm5.blk (hng _ (by omega)) HM1.out)
  have HX2 := Lib.hid (hm5.blk (hng _ (by omega)) HX1.out)
  have HY2 := Lib.hid (hm5.blk (hng _ (by omega)) HY1.out)
  have HA2 := Lib.hid (hm5.blk (hng _ (by omega)) HA1.out)
  clear hm1 hm2 hm3 hm4 hm5 hng m0 m1 m2 m3 m4 x0 x1 x2 x3 y0 y1 y2 y3
  obtain ⟨m0, m1, m2, m3, m4⟩ := cells5 HM2.out
  obtain ⟨x0, x1, x2, x3⟩ := cells4w HX2.out
  obtain ⟨y0, y1, y2, y3⟩ := cells4w HY2.out
  go_wp2_with fail
  refine (HCo.out _ _ _ (by have := Hg.out; omega) (by rw [wrt_length, Hl.out]) HN.out.2.2.1 HN.out.2.2.2.1 (HA2.out.cell 0)).mono ?_
  rintro e w3 ⟨rfl, m', hp1, hp2, hp3, hp5⟩
  have HQ := Lib.hid (And.intro hp1 (And.intro hp2 (And.intro hp3 hp5)))
  clear hp1 hp2 hp3 hp5 m0 m1 m2 m3 m4 x0 x1 x2 x3 y0 y1 y2 y3
  go_wp2_with fail
  go_ret
  obtain ⟨k1, k2, k3, k4⟩ := HQ.out
  obtain ⟨n1, n2, n3, n4, n5⟩ := HN.out
  rw [wrt_wrt l o i m m' K Hw.out.1 Hw.out.2] at k3
  refine ⟨rfl, m', k1, fun q hq => ⟨m.getD q 0, n2 q hq, ?_⟩, k3, ((Chg.of_below HB1.out).trans n5).trans k4⟩
  have := k2 q hq
  rw [wrt_at l o i m K Hw.out.1 Hw.out.2 hq] at this
  exact this

set_option maxRecDepth 100000 in
set_option maxHeartbeats 1000000 in
/-- What MulT does to a number. -/
theorem gvmult_one2 (a y pa pm px gm cm nm om R C L gx yx cx nx ox ix q O D : Nat) (I : World → Prop) (w : World) (hI : I w) (hIb : ∀ W W', I W → Below W.heap.size W W' → I W')
    (ha : w.cell? ⟨pa, 0, none⟩ = some (.float .f64 a)) (hm : Blk w pm 26 #[.slice (some ⟨gm, 0, none⟩) nm cm, .int .i64 (om : Int), .int .i64 (R : Int), .int .i64 (C : Int), .int .i64 (L : Int)]) (hx : Blk w px 32 #[.slice (some ⟨gx, yx, none⟩) nx cx, .int .i64 (ox : Int), .int .i64 (R : Int), .int .i64 (ix : Int)])
    (hCol : ∀ W, Calls Try.prog 50 #[mat (some ⟨gm, 0, none⟩) nm cm om R C L, .int .i64 (q : Int)] W fun e w' => e = .returned (vec (some ⟨gm, 0, none⟩) nm cm (O : Int) R 1) ∧ Below W.heap.size W w')
    (hDt : ∀ W, I W → Calls Try.prog 49 #[vec (some ⟨gm, 0, none⟩) nm cm (O : Int) R 1, vec (some ⟨gx, yx, none⟩) nx cx ox R ix] W fun e w' => ∃ r, e = .returned (.tuple #[.float .f64 r, .int .i64 0]) ∧ Is r D ∧ Below W.heap.size W w') :
    Calls Try.prog 48 #[.int .i64 (q : Int), .float .f64 y, .pointer (some ⟨pm, 0, none⟩), .pointer (some ⟨px, 0, none⟩), .pointer (some ⟨pa, 0, none⟩)] w fun e w' => ∃ r, e = .returned (.float .f64 r) ∧ TurnR a D y r ∧ Below w.heap.size w w' := by
  have HI := Lib.hid hI
  have HIb := Lib.hid hIb
  have HCol := Lib.hid hCol
  have HDt := Lib.hid hDt
  have HA := Lib.hid ha
  have HMb := Lib.hid hm
  have HXb := Lib.hid hx
  clear hI hIb hCol hDt ha hm hx
  unfold mat vec at *
  go_enter Try.func48, Try.ntmps48
  go_wp2_with fail
  refine wp_region_inv [11, 12, 13, 14, 15, 10, 16, 17, 8, 9] (fun d s W => (d 0 = true → s 11 = .agg #[.slice (some ⟨gm, 0, none⟩) nm cm, .int .i64 (om : Int), .int .i64 (R : Int), .int .i64 (C : Int), .int .i64 (L : Int)]) ∧ (d 1 = true → s 12 = .int .i64 (q : Int)) ∧ (d 2 = true → s 13 = .agg #[.slice (some ⟨gm, 0, none⟩) nm cm, .int .i64 (O : Int), .int .i64 (R : Int), .int .i64 1]) ∧ (d 3 = true → s 14 = .agg #[.slice (some ⟨gx, yx, none⟩) nx cx, .int .i64 (ox : Int), .int .i64 (R : Int), .int .i64 (ix : Int)]) ∧ (d 4 = true → ∃ r, s 15 = .tuple #[.float .f64 r, .int .i64 0] ∧ Is r D) ∧ (d 5 = true → ∃ r, s 10 = .tuple #[.float .f64 r, .int .i64 0] ∧ Is r D) ∧ (d 6 = true → ∃ r, s 16 = .float .f64 r ∧ Is r D) ∧ (d 7 = true → s 17 = .int .i64 0) ∧ (d 8 = true → ∃ r, s 8 = .float .f64 r ∧ Is r D) ∧ (d 9 = true → s 9 = .int .i64 0) ∧ Below w.heap.size w W)
    rfl (by kernel_rfl) ?_ ?_ ?_
  · exact ⟨by simp, by simp, by simp, by simp, by simp, by simp, by simp, by simp, by simp, by simp, (Below.refl _ _).drew⟩
  · refine ⟨?_, ?_, ?_, ?_, ?_, ?_, ?_, ?_, ?_, ?_, trivial⟩
    all_goals
      intro d s W hJ hfr hd hdep
      simp only [List.mem_cons, forall_eq_or_imp, List.not_mem_nil, false_implies, implies_true, and_true, Region.binds] at hdep
      have f0 := hfr 0 (by decide)
      have f2 := hfr 2 (by decide)
      have f3 := hfr 3 (by decide)
      simp at f0 f2 f3 hdep
      obtain ⟨h0, h1, h2, h3, h4, h5, h6, h7, h8, h9, hT⟩ := hJ
    · unfold OpSteps
      obtain ⟨p0, p1, p2, p3, p4⟩ := cells5 (HMb.out.below hT HMb.out.lt)
      simp [go_sem, evS, f2, p0, p1, p2, p3, p4]
      exact ⟨fun _ => by simp [sput], fun h => by simpa [sput] using h1 (by simpa [did] using h), fun h => by simpa [sput] using h2 (by simpa [did] using h), fun h => by simpa [sput] using h3 (by simpa [did] using h), fun h => by simpa [sput] using h4 (by simpa [did] using h), fun h => by simpa [sput] using h5 (by simpa [did] using h), fun h => by simpa [sput] using h6 (by simpa [did] using h), fun h => by simpa [sput] using h7 (by simpa [did] using h), fun h => by simpa [sput] using h8 (by simpa [did] using h), fun h => by simpa [sput] using h9 (by simpa [did] using h), hT⟩
    · unfold OpSteps
      simp [go_sem, evS, f0]
      exact ⟨fun h => by simpa [sput] using h0 (by simpa [did] using h), fun _ => by simp [sput], fun h => by simpa [sput] using h2 (by simpa [did] using h), fun h => by simpa [sput] using h3 (by simpa [did] using h), fun h => by simpa [sput] using h4 (by simpa [did] using h), fun h => by simpa [sput] using h5 (by simpa [did] using h), fun h => by simpa [sput] using h6 (by simpa [did] using h), fun h => by simpa [sput] using h7 (by simpa [did] using h), fun h => by simpa [sput] using h8 (by simpa [did] using h), fun h => by simpa [sput] using h9 (by simpa [did] using h), hT⟩
    · have g0 := h0 (by simp [hdep])
      have g1 := h1 (by simp [hdep])
      unfold OpSteps
      simp [go_sem, evS, g0, g1]
      refine (HCol.out W).mono ?_
      rintro e W' ⟨rfl, hb⟩
      refine ⟨_, rfl, ?_⟩
      exact ⟨fun h => by simpa [sput] using h0 (by simpa [did] using h), fun h => by simpa [sput] using h1 (by simpa [did] using h), fun _ => by simp [sput], fun h => by simpa [sput] using h3 (by simpa [did] using h), fun h => by simpa [sput] using h4 (by simpa [did] using h), fun h => by simpa [sput] using h5 (by simpa [did] using h), fun h => by simpa [sput] using h6 (by simpa [did] using h), fun h => by simpa [sput] using h7 (by simpa [did] using h), fun h => by simpa [sput] using h8 (by simpa [did] using h), fun h => by simpa [sput] using h9 (by simpa [did] using h), below_nx hT hb⟩
    · unfold OpSteps
      obtain ⟨p0, p1, p2, p3⟩ := cells4w (HXb.out.below hT HXb.out.lt)
      simp [go_sem, evS, f3, p0, p1, p2, p3]
      exact ⟨fun h => by simpa [sput] using h0 (by simpa [did] using h), fun h => by simpa [sput] using h1 (by simpa [did] using h), fun h => by simpa [sput] using h2 (by simpa [did] using h), fun _ => by simp [sput], fun h => by simpa [sput] using h4 (by simpa [did] using h), fun h => by simpa [sput] using h5 (by simpa [did] using h), fun h => by simpa [sput] using h6 (by simpa [did] using h), fun h => by simpa [sput] using h7 (by simpa [did] using h), fun h => by simpa [sput] using h8 (by simpa [did] using h), fun h => by simpa [sput] using h9 (by simpa [did] using h), hT⟩
    · have g2 := h2 (by simp [hdep])
      have g3 := h3 (by simp [hdep])
      unfold OpSteps
      simp [go_sem, evS, g2, g3]
      refine (HDt.out W (HIb.out _ _ HI.out hT)).mono ?_
      rintro e W' ⟨r, rfl, hr, hb⟩
      refine ⟨_, rfl, ?_⟩
      exact ⟨fun h => by simpa [sput] using h0 (by simpa [did] using h), fun h => by simpa [sput] using h1 (by simpa [did] using h), fun h => by simpa [sput] using h2 (by simpa [did] using h), fun h => by simpa [sput] using h3 (by simpa [did] using h), fun _ => ⟨r, by simp [sput], hr⟩, fun h => by simpa [sput] using h5 (by simpa [did] using h), fun h => by simpa [sput] using h6 (by simpa [did] using h), fun h => by simpa [sput] using h7 (by simpa [did] using h), fun h => by simpa [sput] using h8 (by simpa [did] using h), fun h => by simpa [sput] using h9 (by simpa [did] using h), below_nx hT hb⟩
    · have g4 := h4 (by simp [hdep])
      unfold OpSteps
      obtain ⟨r, gp, hr⟩ := g4
      simp [go_sem, evS, gp]
      exact ⟨fun h => by simpa [sput] using h0 (by simpa [did] using h), fun h => by simpa [sput] using h1 (by simpa [did] using h), fun h => by simpa [sput] using h2 (by simpa [did] using h), fun h => by simpa [sput] using h3 (by simpa [did] using h), fun h => by simpa [sput] using h4 (by simpa [did] using h), fun _ => ⟨r, by simp [sput], hr⟩, fun h => by simpa [sput] using h6 (by simpa [did] using h), fun h => by simpa [sput] using h7 (by simpa [did] using h), fun h => by simpa [sput] using h8 (by simpa [did] using h), fun h => by simpa [sput] using h9 (by simpa [did] using h), hT⟩
    · have g5 := h5 (by simp [hdep])
      unfold OpSteps
      obtain ⟨r, gp, hr⟩ := g5
      simp [go_sem, evS, gp]
      exact ⟨fun h => by simpa [sput] using h0 (by simpa [did] using h), fun h => by simpa [sput] using h1 (by simpa [did] using h), fun h => by simpa [sput] using h2 (by simpa [did] using h), fun h => by simpa [sput] using h3 (by simpa [did] using h), fun h => by simpa [sput] using h4 (by simpa [did] using h), fun h => by simpa [sput] using h5 (by simpa [did] using h), fun _ => ⟨r, by simp [sput], hr⟩, fun h => by simpa [sput] using h7 (by simpa [did] using h), fun h => by simpa [sput] using h8 (by simpa [did] using h), fun h => by simpa [sput] using h9 (by simpa [did] using h), hT⟩
    · have g5 := h5 (by simp [hdep])
      unfold OpSteps
      obtain ⟨r, gp, hr⟩ := g5
      simp [go_sem, evS, gp]
      exact ⟨fun h => by simpa [sput] using h0 (by simpa [did] using h), fun h => by simpa [sput] using h1 (by simpa [did] using h), fun h => by simpa [sput] using h2 (by simpa [did] using h), fun h => by simpa [sput] using h3 (by simpa [did] using h), fun h => by simpa [sput] using h4 (by simpa [did] using h), fun h => by simpa [sput] using h5 (by simpa [did] using h), fun h => by simpa [sput] using h6 (by simpa [did] using h), fun _ => by simp [sput], fun h => by simpa [sput] using h8 (by simpa [did] using h), fun h => by simpa [sput] using h9 (by simpa [did] using h), hT⟩
    · have g6 := h6 (by simp [hdep])
      unfold OpSteps
      obtain ⟨r, gp, hr⟩ := g6
      simp [go_sem, evS, gp]
      exact ⟨fun h => by simpa [sput] using h0 (by simpa [did] using h), fun h => by simpa [sput] using h1 (by simpa [did] using h), fun h => by simpa [sput] using h2 (by simpa [did] using h), fun h => by simpa [sput] using h3 (by simpa [did] using h), fun h => by simpa [sput] using h4 (by simpa [did] using h), fun h => by simpa [sput] using h5 (by simpa [did] using h), fun h => by simpa [sput] using h6 (by simpa [did] using h), fun h => by simpa [sput] using h7 (by simpa [did] using h), fun _ => ⟨r, by simp [sput], hr⟩, fun h => by simpa [sput] using h9 (by simpa [did] using h), hT⟩
    · have g7 := h7 (by simp [hdep])
      unfold OpSteps
      simp [go_sem, evS, g7]
      exact ⟨fun h => by simpa [sput] using h0 (by simpa [did] using h), fun h => by simpa [sput] using h1 (by simpa [did] using h), fun h => by simpa [sput] using h2 (by simpa [did] using h), fun h => by simpa [sput] using h3 (by simpa [did] using h), fun h => by simpa [sput] using h4 (by simpa [did] using h), fun h => by simpa [sput] using h5 (by simpa [did] using h), fun h => by simpa [sput] using h6 (by simpa [did] using h), fun h => by simpa [sput] using h7 (by simpa [did] using h), fun h => by simpa [sput] using h8 (by simpa [did] using h), fun _ => by simp [sput], hT⟩
  intro d s W hJ hd
  obtain ⟨h0, h1, h2, h3, h4, h5, h6, h7, h8, h9, hT⟩ := hJ
  obtain ⟨r, hs, hr⟩ := h8 (hd 8 (by decide))
  have hs9 := h9 (hd 9 (by decide))
  have HR := Lib.hid hr
  have HBw := Lib.hid hT
  have HAc := Lib.hid (cell_below HA.out hT)
  clear h0 h1 h2 h3 h4 h5 h6 h7 h8 h9 hT hd hr
  simp [setAll, hs, hs9]
  clear hs hs9
  generalize s 11 = s11
  generalize s 12 = s12
  generalize s 13 = s13
  generalize s 14 = s14
  generalize s 15 = s15
  generalize s 10 = s10
  generalize s 16 = s16
  generalize s 17 = s17
  have a0 := HAc.out
  generalize hW1 : W = wa at *
  clear hW1
  go_wp2_with fail
  go_ret
  exact ⟨_, rfl, ⟨r, _, HR.out, fres_comes _ _ _ _, fres_comes _ _ _ _⟩, below_drewN HBw.out _⟩

set_option maxRecDepth 100000 in
set_option maxHeartbeats 2000000 in
theorem gvmult_ok2 (a b : Nat) (g c n : Nat) (l : List Nat) (o K i : Nat) (gm cm nm : Nat) (lm : List Nat) (om R L : Nat) (gx yx cx nx : Nat) (lx : List Nat) (ox ix : Nat) (w : World)
    (hO : Own w g l) (hl : l.length = n) (hn : n < 1048576) (hi1 : 1 ≤ i) (hr : K = 0 ∨ o + (K - 1) * i < n)
    (hgl : gm = g → n = nm) (hM : Own w gm lm) (hlm : lm.length = nm) (hnm : nm < 1048576) (hL1 : 1 ≤ L) (hKL : R ≤ L) (hmr : R = 0 ∨ K = 0 ∨ om + (K - 1) * L + (R - 1) < nm) (hWm : Wds lm)
    (hX : Row w (some ⟨gx, yx, none⟩) (f64s lx)) (hlx : lx.length = nx) (hnx : nx < 1048576) (hix : 1 ≤ ix) (hxr : R = 0 ∨ ox + (R - 1) * ix < nx) (hWx : Wds lx) (hom : I64 om) (hLI : I64 L) (hox : I64 ox) (hixI : I64 ix) (hKb : K < 1048576) (hCb : R < 1048576)
    (hdm : gm = g → ∀ a, a < R → ∀ b, b < K → ∀ q, q < K → om + b * L + a ≠ o + q * i) (hdx : gx ≠ g)
    (hFit : ∀ W, Below w.heap.size w W → Calls Try.prog 45 #[mat (some ⟨gm, 0, none⟩) nm cm om R K L, vec (some ⟨gx, yx, none⟩) nx cx ox R ix, vec (some ⟨g, 0, none⟩) n c o K i, .int .i64 (R : Int), .int .i64 (K : Int)] W fun e w' => e = .returned (.int .i64 0) ∧ Below W.heap.size W w') :
    Calls Try.prog 10 #[.float .f64 a, mat (some ⟨gm, 0, none⟩) nm cm om R K L, vec (some ⟨gx, yx, none⟩) nx cx ox R ix, .float .f64 b, vec (some ⟨g, 0, none⟩) n c o K i] w fun e w' => e = .returned (.int .i64 0) ∧
      ∃ m : List Nat, m.length = K ∧ (∀ q, q < K → TurnQ a b l o i lm om R L lx ox ix q (m.getD q 0)) ∧ Own w' g (wrt l o i m K) ∧ Chg [g] w w' := by
  have hRn : ∀ q, q < K → o + q * i < n := fun q hq => by
    rcases hr with h0 | h0
    · omega
    · exact place_lt h0 hq
  have HFt := Lib.hid hFit
  have HBg := Lib.hid (fun W (hb : Below w.heap.size w W) => gvbegin_any b g c l n o K i (fun W => (MLst W gm nm lm om R K L ∧ RowY W gx yx lx)) W (hO.nxt hb) hl hn hi1 hr ⟨⟨lm, hM.nxt hb, hlm, hWm, fun _ _ _ _ => rfl⟩, hX.below hb⟩ (fun W W' h hb' => ⟨h.1.nxt hb', h.2.below hb'⟩) (fun W q v hq hv h => ⟨h.1.set_ (n' := 0) (fun e => by have h1 := hRn q hq; have h2 := hgl e; omega) hv (fun e a ha b hb => hdm e a ha b hb q hq), row_set2 h.2 hdx _⟩))
  have HCl := fun W (q : Nat) (hq : q < K) => vcol_some (some ⟨gm, 0, none⟩) nm cm (om : Int) (R : Int) (K : Int) (L : Int) (q : Int) W (by omega) hom (by unfold I64; omega) (by unfold I64; omega) hLI (by unfold I64; omega) (mat_right hL1 hKL hmr) (by omega)
  have hvx : vecB nx (ox : Int) (R : Int) (ix : Int) = true := vec_right hix hxr
  have HCo := Lib.hid (fun W (l1 : List Nat) (pa pm px : Nat) (hp : pa ≠ g) (hp1 : pm ≠ g) (hp2 : px ≠ g) (hl1 : l1.length = n) (h1 : Own W g l1) (hI : (MLst W gm nm lm om R K L ∧ RowY W gx yx lx)) (hA : W.cell? ⟨pa, 0, none⟩ = some (.float .f64 a))
      (hBm : Blk W pm 26 #[.slice (some ⟨gm, 0, none⟩) nm cm, .int .i64 (om : Int), .int .i64 (R : Int), .int .i64 (K : Int), .int .i64 (L : Int)]) (hBx : Blk W px 32 #[.slice (some ⟨gx, yx, none⟩) nx cx, .int .i64 (ox : Int), .int .i64 (R : Int), .int .i64 (ix : Int)]) =>
    gveach_any 48 #[.pointer (some ⟨pm, 0, none⟩), .pointer (some ⟨px, 0, none⟩), .pointer (some ⟨pa, 0, none⟩)]
      (fun W => (MLst W gm nm lm om R K L ∧ RowY W gx yx lx) ∧ W.cell? ⟨pa, 0, none⟩ = some (.float .f64 a) ∧ Blk W pm 26 #[.slice (some ⟨gm, 0, none⟩) nm cm, .int .i64 (om : Int), .int .i64 (R : Int), .int .i64 (K : Int), .int .i64 (L : Int)] ∧ Blk W px 32 #[.slice (some ⟨gx, yx, none⟩) nx cx, .int .i64 (ox : Int), .int .i64 (R : Int), .int .i64 (ix : Int)])
      (fun q r => TurnR a (dotF (lst lm (om + q * L) 1 R) (lst lx ox ix R) R) (l1.getD (o + q * i) 0) r) g n c l1 o K i W (fun args W => gvmult_enters args W) h1 hl1 hn hi1 hr ⟨hI, hA, hBm, hBx⟩
      (fun W W' h hb' => ⟨⟨h.1.1.nxt hb', h.1.2.below hb'⟩, cell_below h.2.1 hb', h.2.2.1.nxt hb', h.2.2.2.nxt hb'⟩)
      (fun W q v hq hR h => by
        have hv : v < 18446744073709551616 := by
          obtain ⟨_, _, _, _, h5⟩ := hR
          exact h5.1
        exact ⟨(fun (h : (MLst W gm nm lm om R K L ∧ RowY W gx yx lx)) => ⟨h.1.set_ (n' := 0) (fun e => by have h1 := hRn q hq; have h2 := hgl e; omega) hv (fun e a ha b hb => hdm e a ha b hb q hq), row_set2 h.2 hdx _⟩) h.1, (cell_set hp _).trans h.2.1, h.2.2.1.other hp1 _, h.2.2.2.other hp2 _⟩)
      (fun W q hq h => by
        obtain ⟨O, hO1, hO2⟩ : ∃ O : Nat, colOff (om : Int) (R : Int) (L : Int) (q : Int) = (O : Int) ∧ ((0 < R ∧ O = om + q * L) ∨ (R = 0 ∧ O = om)) := by
          unfold colOff
          by_cases e : R = 0
          · exact ⟨om, by rw [if_pos (by omega)], .inr ⟨e, rfl⟩⟩
          · exact ⟨om + q * L, by rw [if_neg (by omega)]; simp, .inl ⟨by omega, rfl⟩⟩
        have HC1 := fun W => HCl W q hq
        rw [hO1] at HC1
        have hO3 : R = 0 ∨ O + (R - 1) * 1 < nm := by
          rcases Nat.eq_zero_or_pos R with e | e
          · exact .inl e
          · right
            have := mat_lt hmr (show R - 1 < R by omega) hq
            omega
        have hOm : (O : Int) < 9223372036854775808 := by
          rcases hO2 with ⟨e0, e⟩ | ⟨_, e⟩
          · rcases hO3 with e3 | e3 <;> omega
          · unfold I64 at hom; omega
        have hvm : vecB nm (O : Int) (R : Int) ((1 : Nat) : Int) = true := vec_right (Nat.le_refl _) hO3
        have := gvmult_one2 a (l1.getD (o + q * i) 0) pa pm px gm cm nm om R K L gx yx cx nx ox ix q O (dotF (lst lm (om + q * L) 1 R) (lst lx ox ix R) R) (fun W => (MLst W gm nm lm om R K L ∧ RowY W gx yx lx)) W h.1 (fun W W' h hb' => ⟨h.1.nxt hb', h.2.below hb'⟩) h.2.1 h.2.2.1 h.2.2.2 HC1 (fun W hi => by
          obtain ⟨⟨l2, a1, a2, a3, a4⟩, b1⟩ := hi
          have := dot_ok (some ⟨gm, 0, none⟩) (some ⟨gx, yx, none⟩) nm cm l2 O R 1 nx cx lx ox ix W a1.row b1 a3 hWx a2 hlx hnm hnx hO3 hxr (by omega) hvm hvx (by unfold I64; omega) (by unfold I64; omega) hox hixI
          have e1 : lst l2 O 1 R = lst lm (om + q * L) 1 R := by
            rcases hO2 with ⟨_, rfl⟩ | ⟨rfl, rfl⟩
            · exact lst_congr fun j hj => by have := a4 j hj q hq; rw [Nat.mul_one]; exact this
            · rfl
          rw [e1] at this
          exact this)
        exact this))
  have Hw := Lib.hid (And.intro hi1 (show K = 0 ∨ o + (K - 1) * i < l.length by rw [hl]; exact hr))
  have Hl := Lib.hid hl
  have Hg := Lib.hid (show g < w.heap.size from hO.lt)
  clear hO hl hn hi1 hr hM hlm hnm hL1 hKL hmr hWm hX hlx hnx hix hxr hWx hom hLI hox hixI hdm hdx hFit hRn hKb hCb hgl HCl hvx
  unfold mat vec at *
  go_enter Try.func10, Try.ntmps10
  have HA0 := Lib.hid ((((Blk.new_ w 28 #[.float .f64 a] (w.heap.size) (by simp)).alloc (.cells #[.slice (some ⟨gm, 0, none⟩) nm cm, .int .i64 om, .int .i64 R, .int .i64 K, .int .i64 L] 26)).alloc (.cells #[.slice (some ⟨gx, yx, none⟩) nx cx, .int .i64 ox, .int .i64 R, .int .i64 ix] 32)).alloc (.cells #[.slice (some ⟨g, 0, none⟩) n c, .int .i64 o, .int .i64 K, .int .i64 i] 32))
  have HM0 := Lib.hid (((Blk.new_ (w.alloc (.cells #[.float .f64 a] 28)) 26 #[.slice (some ⟨gm, 0, none⟩) nm cm, .int .i64 om, .int .i64 R, .int .i64 K, .int .i64 L] (w.heap.size + 1) (by simp)).alloc (.cells #[.slice (some ⟨gx, yx, none⟩) nx cx, .int .i64 ox, .int .i64 R, .int .i64 ix] 32)).alloc (.cells #[.slice (some ⟨g, 0, none⟩) n c, .int .i64 o, .int .i64 K, .int .i64 i] 32))
  have HX0 := Lib.hid ((Blk.new_ ((w.alloc (.cells #[.float .f64 a] 28)).alloc (.cells #[.slice (some ⟨gm, 0, none⟩) nm cm, .int .i64 om, .int .i64 R, .int .i64 K, .int .i64 L] 26)) 32 #[.slice (some ⟨gx, yx, none⟩) nx cx, .int .i64 ox, .int .i64 R, .int .i64 ix] (w.heap.size + 1 + 1) (by simp)).alloc (.cells #[.slice (some ⟨g, 0, none⟩) n c, .int .i64 o, .int .i64 K, .int .i64 i] 32))
  have HY0 := Lib.hid (Blk.new_ (((w.alloc (.cells #[.float .f64 a] 28)).alloc (.cells #[.slice (some ⟨gm, 0, none⟩) nm cm, .int .i64 om, .int .i64 R, .int .i64 K, .int .i64 L] 26)).alloc (.cells #[.slice (some ⟨gx, yx, none⟩) nx cx, .int .i64 ox, .int .i64 R, .int .i64 ix] 32)) 32 #[.slice (some ⟨g, 0, none⟩) n c, .int .i64 o, .int .i64 K, .int .i64 i] (w.heap.size + 1 + 1 + 1) (by simp))
  have HB0 := Lib.hid (((((Below.refl w.heap.size w).alloc (Nat.le_refl _) (.cells #[.float .f64 a] 28)).alloc (by simp) (.cells #[.slice (some ⟨gm, 0, none⟩) nm cm, .int .i64 om, .int .i64 R, .int .i64 K, .int .i64 L] 26)).alloc (by simp; omega) (.cells #[.slice (some ⟨gx, yx, none⟩) nx cx, .int .i64 ox, .int .i64 R, .int .i64 ix] 32)).alloc (by simp; omega) (.cells #[.slice (some ⟨g, 0, none⟩) n c, .int .i64 o, .int .i64 K, .int .i64 i] 32))
  obtain ⟨m0, m1, m2, m3, m4⟩ := cells5 HM0.out
  obtain ⟨x0, x1, x2, x3⟩ := cells4w HX0.out
  obtain ⟨y0, y1, y2, y3⟩ := cells4w HY0.out
  go_wp2_with fail
  refine (HFt.out _ HB0.out).mono ?_
  rintro e w1 ⟨rfl, hb⟩
  have HB1 := Lib.hid (below_nx HB0.out hb)
  have HM1 := Lib.hid (HM0.out.nxt hb)
  have HX1 := Lib.hid (HX0.out.nxt hb)
  have HY1 := Lib.hid (HY0.out.nxt hb)
  have HA1 := Lib.hid (HA0.out.nxt hb)
  clear hb m0 m1 m2 m3 m4 x0 x1 x2 x3 y0 y1 y2 y3
  obtain ⟨m0, m1, m2, m3, m4⟩ := cells5 HM1.out
  obtain ⟨x0, x1, x2, x3⟩ := cells4w HX1.out
  obtain ⟨y0, y1, y2, y3⟩ := cells4w HY1.out
  go_wp2_with fail
  refine (HBg.out _ HB1.out).mono ?_
  rintro e w2 ⟨rfl, m, hm1, hm2, hm3, hm4, hm5⟩
  have HN := Lib.hid (And.intro hm1 (And.intro hm2 (And.intro hm3 (And.intro hm4 hm5))))
  have hng : ∀ p, w.heap.size ≤ p → p ∉ [g] := fun p hp => by simp; have := Hg.out; omega
  have HM2 := Lib.hid (hm5.blk (hng _ (by omega)) HM1.out)
  have HX2 := Lib.hid (hm5.blk (hng _ (by omega)) HX1.out)
  have HY2 := Lib.hid (hm5.blk (hng _ (by omega)) HY1.out)
  have HA2 := Lib.hid (hm5.blk (hng _ (by omega)) HA1.out)
  clear hm1 hm2 hm3 hm4 hm5 hng m0 m1 m2 m3 m4 x0 x1 x2 x3 y0 y1 y2 y3
  obtain ⟨m0, m1, m2, m3, m4⟩ := cells5 HM2.out
  obtain ⟨x0, x1, x2, x3⟩ := cells4w HX2.out
  obtain ⟨y0, y1, y2, y3⟩ := cells4w HY2.out
  go_wp2_with fail
  refine (HCo.out _ _ _ _ _ (by have := Hg.out; omega) (by have := Hg.out; omega) (by have := Hg.out; omega) (by rw [wrt_length, Hl.out]) HN.out.2.2.1 HN.out.2.2.2.1 (HA2.out.cell 0) HM2.out HX2.out).mono ?_
  rintro e w3 ⟨rfl, m', hp1, hp2, hp3, hp4, hp5⟩
  have HQ := Lib.hid (And.intro hp1 (And.intro hp2 (And.intro hp3 hp5)))
  clear hp1 hp2 hp3 hp5 hp4 m0 m1 m2 m3 m4 x0 x1 x2 x3 y0 y1 y2 y3
  go_wp2_with fail
  go_ret
  obtain ⟨k1, k2, k3, k4⟩ := HQ.out
  obtain ⟨n1, n2, n3, n4, n5⟩ := HN.out
  rw [wrt_wrt l o i m m' K Hw.out.1 Hw.out.2] at k3
  refine ⟨rfl, m', k1, fun q hq => ⟨m.getD q 0, n2 q hq, ?_⟩, k3, ((Chg.of_below HB1.out).trans n5).trans k4⟩
  have := k2 q hq
  rw [wrt_at l o i m K Hw.out.1 Hw.out.2 hq] at this
  exact this
end Go.Proofs.Ytlhdcajamempoaa
