/-
Gemm: Mul where the second matrix lies anywhere. Conditions: as each says.
-/
import Derived.Test.YtbbgldelebgnfaaZGeC
import Derived.Test.YtbbgldelebgnfaaZGvS
import Derived.Test.YtbbgldelebgnfaaZMin
set_option linter.unusedVariables false
set_option linter.unusedSimpArgs false
set_option linter.unnecessarySimpa false
namespace Go.Proofs.Ytbbgldelebgnfaa
open Go.RowKit
attribute [local go_sem ↓] Go.wp_at_zero Go.wp_at_succ

set_option maxRecDepth 100000 in
set_option maxHeartbeats 2000000 in
theorem gvmul_ok2e (a b : Nat) (g c n : Nat) (l : List Nat) (o K i : Nat) (gm cm nm : Nat) (lm : List Nat) (om C L : Nat) (gx yx cx nx : Nat) (lx : List Nat) (ox ix : Nat) (w : World)
    (hO : Own w g l) (hl : l.length = n) (hn : n < 1048576) (hi1 : 1 ≤ i) (hr : K = 0 ∨ o + (K - 1) * i < n)
    (hM : Own w gm lm) (hlm : lm.length = nm) (hnm : nm < 1048576) (hL1 : 1 ≤ L) (hKL : K ≤ L) (hmr : K = 0 ∨ C = 0 ∨ om + (C - 1) * L + (K - 1) < nm) (hWm : Wds lm)
    (hX : Row w (some ⟨gx, yx, none⟩) (f64s lx)) (hlx : lx.length = nx) (hnx : nx < 1048576) (hix : 1 ≤ ix) (hxr : C = 0 ∨ ox + (C - 1) * ix < nx) (hWx : Wds lx) (hom : I64 om) (hLI : I64 L) (hox : I64 ox) (hixI : I64 ix) (hKb : K < 1048576) (hCb : C < 1048576)
    (hdm : gm = g → ∀ a, a < K → ∀ b, b < C → ∀ q, q < K → om + b * L + a ≠ o + q * i) (hdx : gx ≠ g)
    (hFit : ∀ W, Below w.heap.size w W → Calls Try.prog 41 #[mat (some ⟨gm, 0, none⟩) nm cm om K C L, vec (some ⟨gx, yx, none⟩) nx cx ox C ix, vec (some ⟨g, 0, none⟩) n c o K i, .int .i64 (C : Int), .int .i64 (K : Int)] W fun e w' => e = .returned (.int .i64 0) ∧ Below W.heap.size W w') :
    Calls Try.prog 25 #[.float .f64 a, mat (some ⟨gm, 0, none⟩) nm cm om K C L, vec (some ⟨gx, yx, none⟩) nx cx ox C ix, .float .f64 b, vec (some ⟨g, 0, none⟩) n c o K i] w fun e w' => e = .returned (.int .i64 0) ∧
      ∃ m : List Nat, m.length = K ∧ (∀ q, q < K → MulQ a b l o i lm om C L lx ox ix q (m.getD q 0)) ∧ Own w' g (wrt l o i m K) ∧ Chg [g] w w' := by
  have hRn : ∀ q, q < K → o + q * i < n := fun q hq => by
    rcases hr with h0 | h0
    · omega
    · exact place_lt h0 hq
  have HFt := Lib.hid hFit
  have HBg := Lib.hid (fun W (hb : Below w.heap.size w W) => gvbegin_any b g c l n o K i (fun W => (MCells W gm lm om K C L ∧ VCellsY W gx yx lx ox C ix)) W (hO.nxt hb) hl hn hi1 hr ⟨(mcells_own hM hlm hmr).nxt hb, (vcellsY_row hX hlx hxr).nxt hb⟩ (fun W W' h hb' => ⟨h.1.nxt hb', h.2.nxt hb'⟩) (fun W q v hq hv h => ⟨h.1.set_ (fun e a ha b hb => hdm e a ha b hb q hq) _, h.2.far hdx _⟩))
  have HCo := Lib.hid (fun W (l1 : List Nat) (pa : Nat) (hp : pa ≠ g) (hl1 : l1.length = n) (h1 : Own W g l1) (hI : (MCells W gm lm om K C L ∧ VCellsY W gx yx lx ox C ix)) (hA : W.cell? ⟨pa, 0, none⟩ = some (.float .f64 a)) =>
    gvcols2_any 44 #[.pointer (some ⟨pa, 0, none⟩)] (fun W => W.cell? ⟨pa, 0, none⟩ = some (.float .f64 a)) (MulR a) g c n l1 o K i gm cm nm lm om C L gx yx cx nx lx ox ix W (fun args W => gvmul_enters args W) h1 hl1 hn hi1 hr
      hI.1 hnm hL1 hKL hmr hI.2 hnx hxr hom hLI hKb hCb hdm hdx hA (fun W W' h hb => cell_below h hb) (fun W q v hq h => (cell_set hp _).trans h)
      (fun W x f hx hf h => gvmul_one a (lm.getD (om + f * L + x) 0) (lx.getD (ox + f * ix) 0) pa W h))
  have Hw := Lib.hid (And.intro hi1 (show K = 0 ∨ o + (K - 1) * i < l.length by rw [hl]; exact hr))
  have Hl := Lib.hid hl
  have Hg := Lib.hid (show g < w.heap.size from hO.lt)
  clear hO hl hn hi1 hr hM hlm hnm hL1 hKL hmr hWm hX hlx hnx hix hxr hWx hom hLI hox hixI hdm hdx hFit hRn hKb hCb
  unfold mat vec at *
  go_enter Try.func25, Try.ntmps25
  have HA0 := Lib.hid ((((Blk.new_ w 22 #[.float .f64 a] (w.heap.size) (by simp)).alloc (.cells #[.slice (some ⟨gm, 0, none⟩) nm cm, .int .i64 om, .int .i64 K, .int .i64 C, .int .i64 L] 25)).alloc (.cells #[.slice (some ⟨gx, yx, none⟩) nx cx, .int .i64 ox, .int .i64 C, .int .i64 ix] 57)).alloc (.cells #[.slice (some ⟨g, 0, none⟩) n c, .int .i64 o, .int .i64 K, .int .i64 i] 57))
  have HM0 := Lib.hid (((Blk.new_ (w.alloc (.cells #[.float .f64 a] 22)) 25 #[.slice (some ⟨gm, 0, none⟩) nm cm, .int .i64 om, .int .i64 K, .int .i64 C, .int .i64 L] (w.heap.size + 1) (by simp)).alloc (.cells #[.slice (some ⟨gx, yx, none⟩) nx cx, .int .i64 ox, .int .i64 C, .int .i64 ix] 57)).alloc (.cells #[.slice (some ⟨g, 0, none⟩) n c, .int .i64 o, .int .i64 K, .int .i64 i] 57))
  have HX0 := Lib.hid ((Blk.new_ ((w.alloc (.cells #[.float .f64 a] 22)).alloc (.cells #[.slice (some ⟨gm, 0, none⟩) nm cm, .int .i64 om, .int .i64 K, .int .i64 C, .int .i64 L] 25)) 57 #[.slice (some ⟨gx, yx, none⟩) nx cx, .int .i64 ox, .int .i64 C, .int .i64 ix] (w.heap.size + 1 + 1) (by simp)).alloc (.cells #[.slice (some ⟨g, 0, none⟩) n c, .int .i64 o, .int .i64 K, .int .i64 i] 57))
  have HY0 := Lib.hid (Blk.new_ (((w.alloc (.cells #[.float .f64 a] 22)).alloc (.cells #[.slice (some ⟨gm, 0, none⟩) nm cm, .int .i64 om, .int .i64 K, .int .i64 C, .int .i64 L] 25)).alloc (.cells #[.slice (some ⟨gx, yx, none⟩) nx cx, .int .i64 ox, .int .i64 C, .int .i64 ix] 57)) 57 #[.slice (some ⟨g, 0, none⟩) n c, .int .i64 o, .int .i64 K, .int .i64 i] (w.heap.size + 1 + 1 + 1) (by simp))
  have HB0 := Lib.hid (((((Below.refl w.heap.size w).alloc (Nat.le_refl _) (.cells #[.float .f64 a] 22)).alloc (by simp) (.cells #[.slice (some ⟨gm, 0, none⟩) nm cm, .int .i64 om, .int .i64 K, .int .i64 C, .int .i64 L] 25)).alloc (by simp; omega) (.cells #[.slice (some ⟨gx, yx, none⟩) nx cx, .int .i64 ox, .int .i64 C, .int .i64 ix] 57)).alloc (by simp; omega) (.cells #[.slice (some ⟨g, 0, none⟩) n c, .int .i64 o, .int .i64 K, .int .i64 i] 57))
  obtain ⟨m0, m1, m2, m3, m4⟩ := cells5 HM0.out
  obtain ⟨x0, x1, x2, x3⟩ := cells4w HX0.out
  obtain ⟨y0, y1, y2, y3⟩ := cells4w HY0.out
  go_wp2_with fail
  refine (HFt.out _ HB0.out).mono ?_
  rintro e w1 ⟨rfl, hb⟩
  have HB1 := Lib.hid (below_nx HB0.out hb)
  have HM1 := Lib.hid (HM0.out.nxt hb)
  have HX1 := Lib.hid (HX0.out.nxt hb)
  have HY1 := Lib.hid (HY0.out.nxt hb)
  have HA1 := Lib.hid (HA0.out.nxt hb)
  clear hb m0 m1 m2 m3 m4 x0 x1 x2 x3 y0 y1 y2 y3
  obtain ⟨m0, m1, m2, m3, m4⟩ := cells5 HM1.out
  obtain ⟨x0, x1, x2, x3⟩ := cells4w HX1.out
  obtain ⟨y0, y1, y2, y3⟩ := cells4w HY1.out
  go_wp2_with fail
  refine (HBg.out _ HB1.out).mono ?_
  rintro e w2 ⟨rfl, m, hm1, hm2, hm3, hm4, hm5⟩
  have HN := Lib.hid (And.intro hm1 (And.intro hm2 (And.intro hm3 (And.intro hm4 hm5))))
  have hng : ∀ p, w.heap.size ≤ p → p ∉ [g] := fun p hp => by simp; have := Hg.out; omega
  have HM2 := Lib.hid (hm5.blk (hng _ (by omega)) HM1.out)
  have HX2 := Lib.hid (hm5.blk (hng _ (by omega)) HX1.out)
  have HY2 := Lib.hid (hm5.blk (hng _ (by omega)) HY1.out)
  have HA2 := Lib.hid (hm5.blk (hng _ (by omega)) HA1.out)
  clear hm1 hm2 hm3 hm4 hm5 hng m0 m1 m2 m3 m4 x0 x1 x2 x3 y0 y1 y2 y3
  obtain ⟨m0, m1, m2, m3, m4⟩ := cells5 HM2.out
  obtain ⟨x0, x1, x2, x3⟩ := cells4w HX2.out
  obtain ⟨y0, y1, y2, y3⟩ := cells4w HY2.out
  go_wp2_with fail
  refine (HCo.out _ _ _ (by have := Hg.out; omega) (by rw [wrt_length, Hl.out]) HN.out.2.2.1 HN.out.2.2.2.1 (HA2.out.cell 0)).mono ?_
  rintro e w3 ⟨rfl, m', hp1, hp2, hp3, hp5⟩
  have HQ := Lib.hid (And.intro hp1 (And.intro hp2 (And.intro hp3 hp5)))
  clear hp1 hp2 hp3 hp5 m0 m1 m2 m3 m4 x0 x1 x2 x3 y0 y1 y2 y3
  go_wp2_with fail
  go_ret
  obtain ⟨k1, k2, k3, k4⟩ := HQ.out
  obtain ⟨n1, n2, n3, n4, n5⟩ := HN.out
  rw [wrt_wrt l o i m m' K Hw.out.1 Hw.out.2] at k3
  refine ⟨rfl, m', k1, fun q hq => ⟨m.getD q 0, n2 q hq, ?_⟩, k3, ((Chg.of_below HB1.out).trans n5).trans k4⟩
  have := k2 q hq
  rw [wrt_at l o i m K Hw.out.1 Hw.out.2 hq] at this
  exact this


set_option maxHeartbeats 1000000 in
theorem gvcols0_any (F : FuncId) (caps : Array Value) (Am : Option Addr) (nm cm : Nat) (om K L : Int) (Ax : Option Addr) (nx cx : Nat) (ox ix : Int) (A : Option Addr) (n c : Nat) (o k i : Int) (w : World) :
    Calls Try.prog 43 #[mat Am nm cm om K 0 L, vec Ax nx cx ox 0 ix, vec A n c o k i, .func (.func F) #[] caps] w fun e w' => e = .returned (.tuple #[]) ∧ Below w.heap.size w w' := by
  unfold mat vec
  go_enter Try.func43, Try.ntmps43
  have HZx := Lib.hid (((Blk.new_ (w.alloc (.cells #[.slice Am nm cm, .int .i64 om, .int .i64 K, .int .i64 0, .int .i64 L] 25)) 57 #[.slice Ax nx cx, .int .i64 ox, .int .i64 0, .int .i64 ix] (w.heap.size + 1) (by simp)).alloc (.cells #[.slice A n c, .int .i64 o, .int .i64 k, .int .i64 i] 57)).alloc (.cells #[.func (.func F) #[] caps] 64))
  have HB0 := Lib.hid (((((Below.refl w.heap.size w).alloc (Nat.le_refl _) (.cells #[.slice Am nm cm, .int .i64 om, .int .i64 K, .int .i64 0, .int .i64 L] 25)).alloc (by simp) (.cells #[.slice Ax nx cx, .int .i64 ox, .int .i64 0, .int .i64 ix] 57)).alloc (by simp; omega) (.cells #[.slice A n c, .int .i64 o, .int .i64 k, .int .i64 i] 57)).alloc (by simp; omega) (.cells #[.func (.func F) #[] caps] 64))
  obtain ⟨x0, x1, x2, x3⟩ := cells4w HZx.out
  go_wp2_with fail
  clear x0 x1 x2 x3
  go_loopw [13] (fun a wr => ∃ q : Nat, q ≤ 0 ∧ a = .int .i64 q ∧ Hid (Below w.heap.size w wr)) (fun a _ => 0 - (intOf a).toNat)
  case atStart => exact ⟨0, Nat.zero_le _, rfl, HB0⟩
  case round =>
    obtain ⟨q, hq, rfl, HBr⟩ := hrel
    obtain rfl : q = 0 := by omega
    go_wp2_with fail
    go_end0
    exact ⟨rfl, HBr.out⟩

set_option maxRecDepth 100000 in
set_option maxHeartbeats 2000000 in
theorem gvmul_ok0 (a b : Nat) (g c n : Nat) (l : List Nat) (o K i : Nat) (gm cm nm : Nat) (lm : List Nat) (om L : Nat) (Ax : Option Addr) (cx nx : Nat) (lx : List Nat) (ox ix : Nat) (w : World)
    (hO : Own w g l) (hl : l.length = n) (hn : n < 1048576) (hi1 : 1 ≤ i) (hr : K = 0 ∨ o + (K - 1) * i < n)
    (hKb : K < 1048576)
    (hFit : ∀ W, Below w.heap.size w W → Calls Try.prog 41 #[mat (some ⟨gm, 0, none⟩) nm cm om K 0 L, vec Ax nx cx ox 0 ix, vec (some ⟨g, 0, none⟩) n c o K i, .int .i64 0, .int .i64 (K : Int)] W fun e w' => e = .returned (.int .i64 0) ∧ Below W.heap.size W w') :
    Calls Try.prog 25 #[.float .f64 a, mat (some ⟨gm, 0, none⟩) nm cm om K 0 L, vec Ax nx cx ox 0 ix, .float .f64 b, vec (some ⟨g, 0, none⟩) n c o K i] w fun e w' => e = .returned (.int .i64 0) ∧
      ∃ m : List Nat, m.length = K ∧ (∀ q, q < K → MulQ a b l o i lm om 0 L lx ox ix q (m.getD q 0)) ∧ Own w' g (wrt l o i m K) ∧ Chg [g] w w' := by
  have hRn : ∀ q, q < K → o + q * i < n := fun q hq => by
    rcases hr with h0 | h0
    · omega
    · exact place_lt h0 hq
  have HFt := Lib.hid hFit
  have HBg := Lib.hid (fun W (hb : Below w.heap.size w W) => gvbegin_any b g c l n o K i (fun _ => True) W (hO.nxt hb) hl hn hi1 hr trivial (fun _ _ _ _ => trivial) (fun _ _ _ _ _ _ => trivial))
  have HCo := Lib.hid (fun (F : FuncId) (caps : Array Value) (W : World) => gvcols0_any F caps (some ⟨gm, 0, none⟩) nm cm om K L Ax nx cx ox ix (some ⟨g, 0, none⟩) n c o K i W)
  have Hw := Lib.hid (And.intro hi1 (show K = 0 ∨ o + (K - 1) * i < l.length by rw [hl]; exact hr))
  have Hl := Lib.hid hl
  have Hg := Lib.hid (show g < w.heap.size from hO.lt)
  clear hO hl hn hi1 hr hFit hRn hKb
  unfold mat vec at *
  go_enter Try.func25, Try.ntmps25
  have HA0 := Lib.hid ((((Blk.new_ w 22 #[.float .f64 a] (w.heap.size) (by simp)).alloc (.cells #[.slice (some ⟨gm, 0, none⟩) nm cm, .int .i64 om, .int .i64 K, .int .i64 0, .int .i64 L] 25)).alloc (.cells #[.slice Ax nx cx, .int .i64 ox, .int .i64 0, .int .i64 ix] 57)).alloc (.cells #[.slice (some ⟨g, 0, none⟩) n c, .int .i64 o, .int .i64 K, .int .i64 i] 57))
  have HM0 := Lib.hid (((Blk.new_ (w.alloc (.cells #[.float .f64 a] 22)) 25 #[.slice (some ⟨gm, 0, none⟩) nm cm, .int .i64 om, .int .i64 K, .int .i64 0, .int .i64 L] (w.heap.size + 1) (by simp)).alloc (.cells #[.slice Ax nx cx, .int .i64 ox, .int .i64 0, .int .i64 ix] 57)).alloc (.cells #[.slice (some ⟨g, 0, none⟩) n c, .int .i64 o, .int .i64 K, .int .i64 i] 57))
  have HX0 := Lib.hid ((Blk.new_ ((w.alloc (.cells #[.float .f64 a] 22)).alloc (.cells #[.slice (some ⟨gm, 0, none⟩) nm cm, .int .i64 om, .int .i64 K, .int .i64 0, .int .i64 L] 25)) 57 #[.slice Ax nx cx, .int .i64 ox, .int .i64 0, .int .i64 ix] (w.heap.size + 1 + 1) (by simp)).alloc (.cells #[.slice (some ⟨g, 0, none⟩) n c, .int .i64 o, .int .i64 K, .int .i64 i] 57))
  have HY0 := Lib.hid (Blk.new_ (((w.alloc (.cells #[.float .f64 a] 22)).alloc (.cells #[.slice (some ⟨gm, 0, none⟩) nm cm, .int .i64 om, .int .i64 K, .int .i64 0, .int .i64 L] 25)).alloc (.cells #[.slice Ax nx cx, .int .i64 ox, .int .i64 0, .int .i64 ix] 57)) 57 #[.slice (some ⟨g, 0, none⟩) n c, .int .i64 o, .int .i64 K, .int .i64 i] (w.heap.size + 1 + 1 + 1) (by simp))
  have HB0 := Lib.hid (((((Below.refl w.heap.size w).alloc (Nat.le_refl _) (.cells #[.float .f64 a] 22)).alloc (by simp) (.cells #[.slice (some ⟨gm, 0, none⟩) nm cm, .int .i64 om, .int .i64 K, .int .i64 0, .int .i64 L] 25)).alloc (by simp; omega) (.cells #[.slice Ax nx cx, .int .i64 ox, .int .i64 0, .int .i64 ix] 57)).alloc (by simp; omega) (.cells #[.slice (some ⟨g, 0, none⟩) n c, .int .i64 o, .int .i64 K, .int .i64 i] 57))
  obtain ⟨m0, m1, m2, m3, m4⟩ := cells5 HM0.out
  obtain ⟨x0, x1, x2, x3⟩ := cells4w HX0.out
  obtain ⟨y0, y1, y2, y3⟩ := cells4w HY0.out
  go_wp2_with fail
  refine (HFt.out _ HB0.out).mono ?_
  rintro e w1 ⟨rfl, hb⟩
  have HB1 := Lib.hid (below_nx HB0.out hb)
  have HM1 := Lib.hid (HM0.out.nxt hb)
  have HX1 := Lib.hid (HX0.out.nxt hb)
  have HY1 := Lib.hid (HY0.out.nxt hb)
  have HA1 := Lib.hid (HA0.out.nxt hb)
  clear hb m0 m1 m2 m3 m4 x0 x1 x2 x3 y0 y1 y2 y3
  obtain ⟨m0, m1, m2, m3, m4⟩ := cells5 HM1.out
  obtain ⟨x0, x1, x2, x3⟩ := cells4w HX1.out
  obtain ⟨y0, y1, y2, y3⟩ := cells4w HY1.out
  go_wp2_with fail
  refine (HBg.out _ HB1.out).mono ?_
  rintro e w2 ⟨rfl, m, hm1, hm2, hm3, hm4, hm5⟩
  have HN := Lib.hid (And.intro hm1 (And.intro hm2 (And.intro hm3 (And.intro hm4 hm5))))
  have hng : ∀ p, w.heap.size ≤ p → p ∉ [g] := fun p hp => by simp; have := Hg.out; omega
  have HM2 := Lib.hid (hm5.blk (hng _ (by omega)) HM1.out)
  have HX2 := Lib.hid (hm5.blk (hng _ (by omega)) HX1.out)
  have HY2 := Lib.hid (hm5.blk (hng _ (by omega)) HY1.out)
  have HA2 := Lib.hid (hm5.blk (hng _ (by omega)) HA1.out)
  clear hm1 hm2 hm3 hm4 hm5 hng m0 m1 m2 m3 m4 x0 x1 x2 x3 y0 y1 y2 y3
  obtain ⟨m0, m1, m2, m3, m4⟩ := cells5 HM2.out
  obtain ⟨x0, x1, x2, x3⟩ := cells4w HX2.out
  obtain ⟨y0, y1, y2, y3⟩ := cells4w HY2.out
  go_wp2_with fail
  refine (HCo.out _ _ _).mono ?_
  rintro e w3 ⟨rfl, hb⟩
  have HQ := Lib.hid hb
  clear hb m0 m1 m2 m3 m4 x0 x1 x2 x3 y0 y1 y2 y3
  go_wp2_with fail
  go_ret
  obtain ⟨n1, n2, n3, n4, n5⟩ := HN.out
  exact ⟨rfl, m, n1, fun q hq => ⟨m.getD q 0, n2 q hq, rfl⟩, n3.nxt HQ.out, (Chg.of_below HB1.out).trans (n5.nxt HQ.out)⟩

set_option maxHeartbeats 1000000 in
theorem gemul_far (a b : Nat) (gx cx nx : Nat) (lx : List Nat) (om Lm : Nat) (Ay : Option Addr) (cy ny : Nat) (ly : List Nat) (oy Ly : Nat) (g c n : Nat) (l : List Nat) (o L R K C : Nat) (w : World)
    (hOx : Own w gx lx) (hlx : lx.length = nx) (hnx : nx < 1048576) (hWx : Wds lx) (hL1x : 1 ≤ Lm) (hRLx : R ≤ Lm) (hxr : R = 0 ∨ K = 0 ∨ om + (K - 1) * Lm + (R - 1) < nx) (hom : I64 om) (hLm : I64 Lm)
    (hRy : Row w Ay (f64s ly)) (hly : ly.length = ny) (hny : ny < 1048576) (hWy : Wds ly) (hL1y : 1 ≤ Ly) (hRLy : K ≤ Ly) (hyr : K = 0 ∨ C = 0 ∨ oy + (C - 1) * Ly + (K - 1) < ny) (hoy : I64 oy) (hLy : I64 Ly) (hfz : ∀ p q, Ay = some ⟨p, q, none⟩ → ly ≠ [] → w.frozen? ⟨p, q, none⟩ = false) (hne : ∀ p q, Ay = some ⟨p, q, none⟩ → ly ≠ [] → p ≠ g)
    (hO : Own w g l) (hl : l.length = n) (hn : n < 1048576) (hWl : Wds l) (hL1 : 1 ≤ L) (hRL : R ≤ L) (hmr : R = 0 ∨ C = 0 ∨ o + (C - 1) * L + (R - 1) < n) (hoI : I64 o) (hLI : I64 L)
    (hRb : R < 1048576) (hKb : K < 1048576) (hCb : C < 1048576) (hgx : gx ≠ g) :
    Calls Try.prog 9 #[.float .f64 a, mat (some ⟨gx, 0, none⟩) nx cx om R K Lm, mat Ay ny cy oy K C Ly, .float .f64 b, mat (some ⟨g, 0, none⟩) n c o R C L] w fun e w' => e = .returned (.int .i64 0) ∧ ∃ l', Own w' g l' ∧ Imr l o R C L (GeR a b l o L lx om Lm ly oy Ly K) l' ∧ Chg [g] w w' := by
  have iR : I64 (R : Int) := by unfold I64; omega
  have iK : I64 (K : Int) := by unfold I64; omega
  have iC : I64 (C : Int) := by unfold I64; omega
  have i1 : I64 1 := by unfold I64; omega
  have hfar : ∀ W, Below w.heap.size w W → (Row W Ay (f64s ly)) ∧ ∀ p q, Ay = some ⟨p, q, none⟩ → ly ≠ [] → W.frozen? ⟨p, q, none⟩ = false := fun W hb => ⟨hRy.below hb, fun p q e h => (hb.frozen (p := ⟨p, q, none⟩) (by
      have h0 : 0 < ly.length := List.length_pos_iff.2 h
      obtain ⟨b', o', e', hlt, _⟩ := hRy.at_ (f64s_get ly 0 h0)
      rw [e] at e'
      injection e' with e'
      injection e' with e1 e2
      subst e1
      exact hlt)).trans (hfz p q e h)⟩
  have hF := fun W (hb : Below w.heap.size w W) => gefits_ok (some ⟨gx, 0, none⟩) nx cx om Lm Ay ny cy oy Ly (some ⟨g, 0, none⟩) n c o L R K C W iR iK iC (by omega) hom hLm (by omega) hoy hLy (by omega) hoI hLI (by rw [mat_right hL1x hRLx hxr, mat_right hL1y hRLy hyr, mat_right hL1 hRL hmr]; rfl)
    (fun W' hb' => own_away g gx c cx l lx n nx o R C L om R K Lm W' ((hO.nxt hb).nxt hb') ((hOx.nxt hb).nxt hb') hl hlx hn hnx hoI iR iC hLI hom iR iK hLm (fun e => (hgx e).elim))
    (fun W' hb' => meet_mine g c l n o R C L Ay ny cy ly oy K C Ly W' ((hO.nxt hb).nxt hb') hl (hfar W' (below_nx hb hb')).1 hly (hfar W' (below_nx hb hb')).2 hne (by omega) (by omega) hoI iR iC hLI hoy iK iC hLy)
  rcases Nat.eq_zero_or_pos R with h0 | h0
  · subst h0
    refine (gemul_none a b _ nx cx om 0 K Lm _ ny cy oy K C Ly _ n c o C L w hF).mono ?_
    rintro e w' ⟨e1, hb⟩
    exact ⟨e1, l, hO.nxt hb, ⟨rfl, fun a ha => by omega, fun _ _ => rfl⟩, Chg.of_below hb⟩
  · refine gemul_ok a b _ nx cx om Lm _ ny cy oy Ly g c n l o L R K C _ w hO hl hn hRL hL1 hmr (by omega) hRb hCb hKb hoI hLI (by omega) hoy hLy (mat_right hL1y hRLy hyr) hF fun W j lj hj hp hOj hc => ?_
    obtain ⟨ox, hox, hox2, hoxI, hoxr⟩ := ge_col hj hyr hoy hny
    rw [hox]
    have hPn := ge_jL hmr (by omega) hj
    have hlj : lj.length = n := by rw [hp.1, hl]
    have hjL : j * L ≤ (C - 1) * L := Nat.mul_le_mul_right L (by omega)
    have iP : I64 ((o + j * L : Nat) : Int) := by unfold I64; omega
    have v1 : vecB ny (ox : Int) (K : Int) 1 = true := vec_right (i := 1) (Nat.le_refl 1) hoxr
    have v2 : vecB n ((o + j * L : Nat) : Int) (R : Int) 1 = true := vec_right (i := 1) (Nat.le_refl 1) (.inr hPn)
    have x1 : Own W gx lx := hc.own (by simpa using hgx) hOx
    have yR : Row W Ay (f64s ly) := by
      rcases hRy with h | ⟨p, q, e, h⟩
      · exact .inl h
      · by_cases hz : ly = []
        · rw [hz]; exact .inl rfl
        · exact .inr ⟨p, q, e, fun i v hi => hc.cell (by simpa using hne p q e hz) (h i v hi)⟩
    have yF : ∀ p q, Ay = some ⟨p, q, none⟩ → ly ≠ [] → W.frozen? ⟨p, q, none⟩ = false := fun p q e h => by
      have h0 : 0 < ly.length := List.length_pos_iff.2 h
      obtain ⟨b', o', e', hlt, _⟩ := hRy.at_ (f64s_get ly 0 h0)
      rw [e] at e'
      injection e' with e'
      injection e' with e1 e2
      subst e1
      have hk := hc.block p hlt (by simpa using hne p q e h)
      have := hfz p q e h
      unfold World.frozen? at this ⊢
      simp only at this ⊢
      rw [hk]
      exact this
    have hFt : ∀ W', Below W.heap.size W W' → Calls Try.prog 41 #[mat (some ⟨gx, 0, none⟩) nx cx om R K Lm, vec Ay ny cy ox K 1, vec (some ⟨g, 0, none⟩) n c ((o + j * L : Nat) : Int) R 1, .int .i64 (K : Int), .int .i64 (R : Int)] W' fun e w' => e = .returned (.int .i64 0) ∧ Below W'.heap.size W' w' := fun W' hb => gvfits_ok _ nx cx om R K Lm _ ny cy ox K 1 _ n c _ R 1 W' (by omega) hom iR iK hLm (by omega) hoxI iK i1 (by omega) iP iR i1 (by rw [mat_right hL1x hRLx hxr, v1, v2]; rfl)
        (fun W2 hb2 => own_away g gx c cx lj lx n nx _ 1 R 1 om R K Lm W2 ((hOj.nxt hb).nxt hb2) ((x1.nxt hb).nxt hb2) hlj hlx hn hnx iP i1 iR i1 hom iR iK hLm (fun e => (hgx e).elim))
        (fun W2 hb2 => meet_mine g c lj n _ 1 R 1 Ay ny cy ly ox 1 K 1 W2 ((hOj.nxt hb).nxt hb2) hlj ((yR.below hb).below hb2) hly (fun p q e h => by
          have h0 : 0 < ly.length := List.length_pos_iff.2 h
          obtain ⟨b', o', e', hlt, _⟩ := yR.at_ (f64s_get ly 0 h0)
          rw [e] at e'
          injection e' with e'
          injection e' with e1 e2
          subst e1
          exact ((below_nx hb hb2).frozen (p := ⟨p, q, none⟩) hlt).trans (yF p q e h)) hne (by omega) (by omega) iP i1 iR i1 hoxI i1 iK i1)
    by_cases hK : K = 0
    · subst hK
      refine (gvmul_ok0 a b g c n lj (o + j * L) R 1 gx cx nx lx om Lm Ay cy ny ly ox 1 W hOj hlj hn (Nat.le_refl _) (.inr hPn) hRb hFt).mono ?_
      rintro e w' ⟨e1, m, m1, m2, m3, m4⟩
      refine ⟨e1, m, fun q hq => ?_, m3, m4⟩
      refine (m2 q hq).congr ?_ (fun k hk => by omega) (fun k hk => by omega)
      have h2 := hp.2.1 q hq j hj
      rw [if_neg (by omega)] at h2
      rw [show o + j * L + q * 1 = o + q + j * L by omega]
      exact h2
    · have hny0 : ly ≠ [] := fun h => by
        have := hoxr.resolve_left hK
        rw [h] at hly
        simp at hly
        omega
      obtain ⟨p, y, rfl, hlt, _⟩ := yR.at_ (f64s_get ly 0 (List.length_pos_iff.2 hny0))
      refine (gvmul_ok2e a b g c n lj (o + j * L) R 1 gx cx nx lx om K Lm p y cy ny ly ox 1 W hOj hlj hn (Nat.le_refl _) (.inr hPn) x1 hlx hnx hL1x hRLx hxr hWx yR hly hny (Nat.le_refl _) hoxr hWy hom hLm hoxI i1 hRb hKb (fun e => (hgx e).elim) (hne p y rfl hny0) hFt).mono ?_
      rintro e w' ⟨e1, m, m1, m2, m3, m4⟩
      refine ⟨e1, m, fun q hq => ?_, m3, m4⟩
      refine (m2 q hq).congr ?_ (fun k hk => rfl) (fun k hk => ?_)
      · have h2 := hp.2.1 q hq j hj
        rw [if_neg (by omega)] at h2
        rw [show o + j * L + q * 1 = o + q + j * L by omega]
        exact h2
      · rw [hox2.resolve_left hK]
end Go.Proofs.Ytbbgldelebgnfaa
