/-
Gemv: a vector as a matrix; what fits; a vector is begun. Conditions: as each says.
-/
import Derived.Test.YtcdhpoikppfjkaaZYGvC
set_option linter.unusedVariables false
set_option linter.unusedSimpArgs false
set_option linter.unnecessarySimpa false
namespace Go.Proofs.Ytcdhpoikppfjkaa
open Go.RowKit
attribute [local go_sem ↓] Go.wp_at_zero Go.wp_at_succ

theorem BegR.lt {b y r : Nat} (h : BegR b y r) : r < 18446744073709551616 := by
  unfold BegR at h
  by_cases e : zB b = true
  · rw [if_pos e] at h; omega
  · rw [if_neg e] at h; exact h.1
set_option maxHeartbeats 1000000 in
theorem gvrow_any (A : Option Addr) (n c : Nat) (off k inc : Int) (w : World) :
    Calls Try.prog 73 #[vec A n c off k inc] w fun e w' => e = .returned (mat A n c off 1 k inc) ∧ Below w.heap.size w w' := by
  unfold mat vec
  go_enter Try.func73, Try.ntmps73
  have HX := Lib.hid ((Blk.new w 66 #[.slice A n c, .int .i64 off, .int .i64 k, .int .i64 inc]).alloc (.cells #[.slice none 0 0, .int .i64 0, .int .i64 0, .int .i64 0, .int .i64 0] 24))
  obtain ⟨x0, x1, x2, x3⟩ := cells4w HX.out
  have HBe := Lib.hid (((Below.refl w.heap.size w).alloc (Nat.le_refl _) (.cells #[.slice A n c, .int .i64 off, .int .i64 k, .int .i64 inc] 66)).alloc (by simp) (.cells #[.slice A n c, .int .i64 off, .int .i64 1, .int .i64 k, .int .i64 inc] 24))
  go_wp2_with fail
  obtain ⟨j0, j1, j2, j3, j4⟩ := cells5 (Blk.new_ (w.alloc (.cells #[.slice A n c, .int .i64 off, .int .i64 k, .int .i64 inc] 66)) 24 #[.slice A n c, .int .i64 off, .int .i64 1, .int .i64 k, .int .i64 inc] (w.heap.size + 1) (by simp))
  exact bodyPost_ret (v := .agg #[.slice A n c, .int .i64 off, .int .i64 1, .int .i64 k, .int .i64 inc]) (by simp [results, Try.results73, go_sem, j0, j1, j2, j3, j4]) rfl ⟨rfl, HBe.out⟩

set_option maxRecDepth 100000 in
set_option maxHeartbeats 2000000 in
theorem gvfits_ok (Am : Option Addr) (nm cm : Nat) (mo mr mk ml : Int) (Ax : Option Addr) (nx cx : Nat) (xo xk xi : Int) (A : Option Addr) (n c : Nat) (off k inc : Int)  (w : World) (hnm : nm < 9223372036854775808) (hmo : I64 mo) (hmr : I64 mr) (hmk : I64 mk) (hml : I64 ml) (hnx : nx < 9223372036854775808) (hxo : I64 xo) (hxk : I64 xk) (hxi : I64 xi) (hn : n < 9223372036854775808) (ho : I64 off) (hk : I64 k) (hi : I64 inc) (h : (matB nm mo mr mk ml && vecB nx xo xk xi && vecB n off k inc) = true)
    (h1 : ∀ W, Below w.heap.size w W → Calls Try.prog 30 #[mat A n c off 1 k inc, mat Am nm cm mo mr mk ml] W fun e w' => e = .returned (.bool false) ∧ Below W.heap.size W w')
    (h2 : ∀ W, Below w.heap.size w W → Calls Try.prog 30 #[mat A n c off 1 k inc, mat Ax nx cx xo 1 xk xi] W fun e w' => e = .returned (.bool false) ∧ Below W.heap.size W w') :
    Calls Try.prog 66 #[mat Am nm cm mo mr mk ml, vec Ax nx cx xo xk xi, vec A n c off k inc, .int .i64 xk, .int .i64 k] w fun e w' => e = .returned (.int .i64 0) ∧ Below w.heap.size w w' := by
  have HG := Lib.hid (fun W => good_any Am nm cm mo mr mk ml W hnm hmo hmr hmk hml)
  have HRx := Lib.hid (fun W => right_any Ax nx cx xo xk xi W hnx hxo hxk hxi)
  have HRy := Lib.hid (fun W => right_any A n c off k inc W hn ho hk hi)
  simp only [Bool.and_eq_true] at h
  rw [h.1.1] at HG
  rw [h.1.2] at HRx
  rw [h.2] at HRy
  have HE1 := Lib.hid h1
  have HE2 := Lib.hid h2
  have HRo := Lib.hid (fun W => gvrow_any A n c off k inc W)
  have HRp := Lib.hid (fun W => gvrow_any Ax nx cx xo xk xi W)
  clear hnm hmo hmr hmk hml hnx hxo hxk hxi hn ho hk hi
  clear h h1 h2
  have t1 : (xk == xk) = true := by simp
  have t1' : (xk != xk) = false := by simp
  have t2 : (k == k) = true := by simp
  have t2' : (k != k) = false := by simp
  unfold mat vec at *
  go_enter Try.func66, Try.ntmps66
  have HM0 := Lib.hid (((Blk.new w 24 #[.slice Am nm cm, .int .i64 mo, .int .i64 mr, .int .i64 mk, .int .i64 ml]).alloc (.cells #[.slice Ax nx cx, .int .i64 xo, .int .i64 xk, .int .i64 xi] 66)).alloc (.cells #[.slice A n c, .int .i64 off, .int .i64 k, .int .i64 inc] 66))
  have HX0 := Lib.hid ((Blk.new_ (w.alloc (.cells #[.slice Am nm cm, .int .i64 mo, .int .i64 mr, .int .i64 mk, .int .i64 ml] 24)) 66 #[.slice Ax nx cx, .int .i64 xo, .int .i64 xk, .int .i64 xi] (w.heap.size + 1) (by simp)).alloc (.cells #[.slice A n c, .int .i64 off, .int .i64 k, .int .i64 inc] 66))
  have HY0 := Lib.hid (Blk.new_ ((w.alloc (.cells #[.slice Am nm cm, .int .i64 mo, .int .i64 mr, .int .i64 mk, .int .i64 ml] 24)).alloc (.cells #[.slice Ax nx cx, .int .i64 xo, .int .i64 xk, .int .i64 xi] 66)) 66 #[.slice A n c, .int .i64 off, .int .i64 k, .int .i64 inc] (w.heap.size + 1 + 1) (by simp))
  have HB0 := Lib.hid ((((Below.refl w.heap.size w).alloc (Nat.le_refl _) (.cells #[.slice Am nm cm, .int .i64 mo, .int .i64 mr, .int .i64 mk, .int .i64 ml] 24)).alloc (by simp) (.cells #[.slice Ax nx cx, .int .i64 xo, .int .i64 xk, .int .i64 xi] 66)).alloc (by simp; omega) (.cells #[.slice A n c, .int .i64 off, .int .i64 k, .int .i64 inc] 66))
  obtain ⟨m0, m1, m2, m3, m4⟩ := cells5 HM0.out
  obtain ⟨x0, x1, x2, x3⟩ := cells4w HX0.out
  obtain ⟨y0, y1, y2, y3⟩ := cells4w HY0.out
  go_wp2_with fail
  refine (HG.out _).mono ?_
  rintro e w1 ⟨rfl, hb⟩
  have HM1 := Lib.hid (HM0.out.nxt hb)
  have HX1 := Lib.hid (HX0.out.nxt hb)
  have HY1 := Lib.hid (HY0.out.nxt hb)
  have HB1 := Lib.hid (below_nx HB0.out hb)
  clear hb m0 m1 m2 m3 m4 x0 x1 x2 x3 y0 y1 y2 y3
  obtain ⟨m0, m1, m2, m3, m4⟩ := cells5 HM1.out
  obtain ⟨x0, x1, x2, x3⟩ := cells4w HX1.out
  obtain ⟨y0, y1, y2, y3⟩ := cells4w HY1.out
  go_wp2_with fail
  refine (HRx.out _).mono ?_
  rintro e w2 ⟨rfl, hb⟩
  have HM2 := Lib.hid (HM1.out.nxt hb)
  have HX2 := Lib.hid (HX1.out.nxt hb)
  have HY2 := Lib.hid (HY1.out.nxt hb)
  have HB2 := Lib.hid (below_nx HB1.out hb)
  clear hb m0 m1 m2 m3 m4 x0 x1 x2 x3 y0 y1 y2 y3
  obtain ⟨m0, m1, m2, m3, m4⟩ := cells5 HM2.out
  obtain ⟨x0, x1, x2, x3⟩ := cells4w HX2.out
  obtain ⟨y0, y1, y2, y3⟩ := cells4w HY2.out
  go_wp2_with fail
  refine (HRy.out _).mono ?_
  rintro e w3 ⟨rfl, hb⟩
  have HM3 := Lib.hid (HM2.out.nxt hb)
  have HX3 := Lib.hid (HX2.out.nxt hb)
  have HY3 := Lib.hid (HY2.out.nxt hb)
  have HB3 := Lib.hid (below_nx HB2.out hb)
  clear hb m0 m1 m2 m3 m4 x0 x1 x2 x3 y0 y1 y2 y3
  obtain ⟨m0, m1, m2, m3, m4⟩ := cells5 HM3.out
  obtain ⟨x0, x1, x2, x3⟩ := cells4w HX3.out
  obtain ⟨y0, y1, y2, y3⟩ := cells4w HY3.out
  go_wp2_with fail
  have HBn := Lib.hid (fun W hb => below_nx (w' := W) HB3.out hb)
  have HF1 := Lib.hid (fun W (hb : Below w3.heap.size w3 W) => HE1.out W (below_nx HB3.out hb))
  have HF2 := Lib.hid (fun W (hb : Below w3.heap.size w3 W) => HE2.out W (below_nx HB3.out hb))
  clear HE1 HE2
  clear m0 m1 m2 m3 m4 x0 x1 x2 x3 y0 y1 y2 y3
  generalize hzm : w.heap.size = zm at *
  generalize hzx : zm + 1 = zx at *
  generalize hzy : zx + 1 = zy at *
  have Hzm := Lib.hid hzm
  clear hzm hzx hzy
  generalize w3 = wq at *
  refine wp_region_invG [37, 38, 39, 40, 41, 42, 43, 44, 45, 46, 47, 36] (fun d s W => (d 0 = true → s 37 = .agg #[.slice A n c, .int .i64 off, .int .i64 k, .int .i64 inc]) ∧ (d 1 = true → s 38 = .agg #[.slice A n c, .int .i64 off, .int .i64 1, .int .i64 k, .int .i64 inc]) ∧ (d 2 = true → s 39 = .agg #[.slice Am nm cm, .int .i64 mo, .int .i64 mr, .int .i64 mk, .int .i64 ml]) ∧ (d 3 = true → s 40 = .bool false) ∧ (d 4 = true → s 41 = .bool false) ∧ (d 5 = true → s 42 = .agg #[.slice A n c, .int .i64 off, .int .i64 k, .int .i64 inc]) ∧ (d 6 = true → s 43 = .agg #[.slice A n c, .int .i64 off, .int .i64 1, .int .i64 k, .int .i64 inc]) ∧ (d 7 = true → s 44 = .agg #[.slice Ax nx cx, .int .i64 xo, .int .i64 xk, .int .i64 xi]) ∧ (d 8 = true → s 45 = .agg #[.slice Ax nx cx, .int .i64 xo, .int .i64 1, .int .i64 xk, .int .i64 xi]) ∧ (d 9 = true → s 46 = .bool false) ∧ (d 10 = true → s 47 = .bool false) ∧ (d 11 = true → s 36 = .bool false) ∧ Below wq.heap.size wq W)
    rfl (by kernel_rfl) ?_ ?_ ?_
  · exact ⟨by simp, by simp, by simp, by simp, by simp, by simp, by simp, by simp, by simp, by simp, by simp, by simp, (Below.refl _ _).drew⟩
  · refine ⟨?_, ?_, ?_, ?_, ?_, ?_, ?_, ?_, ?_, ?_, ?_, ?_, trivial⟩
    all_goals
      intro d s W hJ hfr hd hdep
      simp only [List.mem_cons, forall_eq_or_imp, List.not_mem_nil, false_implies, implies_true, and_true, Region.binds] at hdep
      have f5 := hfr 5 (by decide)
      have f6 := hfr 6 (by decide)
      have f7 := hfr 7 (by decide)
      simp at f5 f6 f7 hdep
      obtain ⟨h0, h1, h2, h3, h4, h5, h6, h7, h8, h9, h10, h11, hT⟩ := hJ
    · refine stepG_plain rfl ?_
      unfold OpSteps
      obtain ⟨p0, p1, p2, p3⟩ := cells4w (HY3.out.below hT HY3.out.lt)
      simp [go_sem, evS, f7, p0, p1, p2, p3]
      exact ⟨fun _ => by simp [sput], fun h => by simpa [sput] using h1 (by simpa [did] using h), fun h => by simpa [sput] using h2 (by simpa [did] using h), fun h => by simpa [sput] using h3 (by simpa [did] using h), fun h => by simpa [sput] using h4 (by simpa [did] using h), fun h => by simpa [sput] using h5 (by simpa [did] using h), fun h => by simpa [sput] using h6 (by simpa [did] using h), fun h => by simpa [sput] using h7 (by simpa [did] using h), fun h => by simpa [sput] using h8 (by simpa [did] using h), fun h => by simpa [sput] using h9 (by simpa [did] using h), fun h => by simpa [sput] using h10 (by simpa [did] using h), fun h => by simpa [sput] using h11 (by simpa [did] using h), hT⟩
    · have gc0 := h0 (by simp [hdep])
      refine stepG_plain rfl ?_
      unfold OpSteps
      simp [go_sem, evS, gc0]
      refine (HRo.out W).mono ?_
      rintro e W' ⟨rfl, hb⟩
      refine ⟨_, rfl, ?_⟩
      exact ⟨fun h => by simpa [sput] using h0 (by simpa [did] using h), fun _ => by simp [sput], fun h => by simpa [sput] using h2 (by simpa [did] using h), fun h => by simpa [sput] using h3 (by simpa [did] using h), fun h => by simpa [sput] using h4 (by simpa [did] using h), fun h => by simpa [sput] using h5 (by simpa [did] using h), fun h => by simpa [sput] using h6 (by simpa [did] using h), fun h => by simpa [sput] using h7 (by simpa [did] using h), fun h => by simpa [sput] using h8 (by simpa [did] using h), fun h => by simpa [sput] using h9 (by simpa [did] using h), fun h => by simpa [sput] using h10 (by simpa [did] using h), fun h => by simpa [sput] using h11 (by simpa [did] using h), below_nx hT hb⟩
    · refine stepG_plain rfl ?_
      unfold OpSteps
      obtain ⟨p0, p1, p2, p3, p4⟩ := cells5 (HM3.out.below hT HM3.out.lt)
      simp [go_sem, evS, f5, p0, p1, p2, p3, p4]
      exact ⟨fun h => by simpa [sput] using h0 (by simpa [did] using h), fun h => by simpa [sput] using h1 (by simpa [did] using h), fun _ => by simp [sput], fun h => by simpa [sput] using h3 (by simpa [did] using h), fun h => by simpa [sput] using h4 (by simpa [did] using h), fun h => by simpa [sput] using h5 (by simpa [did] using h), fun h => by simpa [sput] using h6 (by simpa [did] using h), fun h => by simpa [sput] using h7 (by simpa [did] using h), fun h => by simpa [sput] using h8 (by simpa [did] using h), fun h => by simpa [sput] using h9 (by simpa [did] using h), fun h => by simpa [sput] using h10 (by simpa [did] using h), fun h => by simpa [sput] using h11 (by simpa [did] using h), hT⟩
    · have gc1 := h1 (by simp [hdep])
      have gc2 := h2 (by simp [hdep])
      refine stepG_plain rfl ?_
      unfold OpSteps
      simp [go_sem, evS, gc1, gc2]
      refine (HF1.out W hT).mono ?_
      rintro e W' ⟨rfl, hb⟩
      refine ⟨_, rfl, ?_⟩
      exact ⟨fun h => by simpa [sput] using h0 (by simpa [did] using h), fun h => by simpa [sput] using h1 (by simpa [did] using h), fun h => by simpa [sput] using h2 (by simpa [did] using h), fun _ => by simp [sput], fun h => by simpa [sput] using h4 (by simpa [did] using h), fun h => by simpa [sput] using h5 (by simpa [did] using h), fun h => by simpa [sput] using h6 (by simpa [did] using h), fun h => by simpa [sput] using h7 (by simpa [did] using h), fun h => by simpa [sput] using h8 (by simpa [did] using h), fun h => by simpa [sput] using h9 (by simpa [did] using h), fun h => by simpa [sput] using h10 (by simpa [did] using h), fun h => by simpa [sput] using h11 (by simpa [did] using h), below_nx hT hb⟩
    · have gc3 := h3 (by simp [hdep])
      refine stepG_plain rfl ?_
      unfold OpSteps
      simp [go_sem, evS, gc3]
      exact ⟨fun h => by simpa [sput] using h0 (by simpa [did] using h), fun h => by simpa [sput] using h1 (by simpa [did] using h), fun h => by simpa [sput] using h2 (by simpa [did] using h), fun h => by simpa [sput] using h3 (by simpa [did] using h), fun _ => by simp [sput], fun h => by simpa [sput] using h5 (by simpa [did] using h), fun h => by simpa [sput] using h6 (by simpa [did] using h), fun h => by simpa [sput] using h7 (by simpa [did] using h), fun h => by simpa [sput] using h8 (by simpa [did] using h), fun h => by simpa [sput] using h9 (by simpa [did] using h), fun h => by simpa [sput] using h10 (by simpa [did] using h), fun h => by simpa [sput] using h11 (by simpa [did] using h), hT⟩
    · have gc4 := h4 (by simp [hdep])
      refine stepG_on 4 41 false rfl rfl gc4 ?_
      unfold OpSteps
      obtain ⟨p0, p1, p2, p3⟩ := cells4w (HY3.out.below hT HY3.out.lt)
      simp [go_sem, evS, f7, gc4, p0, p1, p2, p3]
      exact ⟨fun h => by simpa [sput] using h0 (by simpa [did] using h), fun h => by simpa [sput] using h1 (by simpa [did] using h), fun h => by simpa [sput] using h2 (by simpa [did] using h), fun h => by simpa [sput] using h3 (by simpa [did] using h), fun h => by simpa [sput] using h4 (by simpa [did] using h), fun _ => by simp [sput], fun h => by simpa [sput] using h6 (by simpa [did] using h), fun h => by simpa [sput] using h7 (by simpa [did] using h), fun h => by simpa [sput] using h8 (by simpa [did] using h), fun h => by simpa [sput] using h9 (by simpa [did] using h), fun h => by simpa [sput] using h10 (by simpa [did] using h), fun h => by simpa [sput] using h11 (by simpa [did] using h), hT⟩
    · have gc5 := h5 (by simp [hdep])
      have gc4 := h4 (by simp [hdep])
      refine stepG_on 4 41 false rfl rfl gc4 ?_
      unfold OpSteps
      simp [go_sem, evS, gc5, gc4]
      refine (HRo.out W).mono ?_
      rintro e W' ⟨rfl, hb⟩
      refine ⟨_, rfl, ?_⟩
      exact ⟨fun h => by simpa [sput] using h0 (by simpa [did] using h), fun h => by simpa [sput] using h1 (by simpa [did] using h), fun h => by simpa [sput] using h2 (by simpa [did] using h), fun h => by simpa [sput] using h3 (by simpa [did] using h), fun h => by simpa [sput] using h4 (by simpa [did] using h), fun h => by simpa [sput] using h5 (by simpa [did] using h), fun _ => by simp [sput], fun h => by simpa [sput] using h7 (by simpa [did] using h), fun h => by simpa [sput] using h8 (by simpa [did] using h), fun h => by simpa [sput] using h9 (by simpa [did] using h), fun h => by simpa [sput] using h10 (by simpa [did] using h), fun h => by simpa [sput] using h11 (by simpa [did] using h), below_nx hT hb⟩
    · have gc4 := h4 (by simp [hdep])
      refine stepG_on 4 41 false rfl rfl gc4 ?_
      unfold OpSteps
      obtain ⟨p0, p1, p2, p3⟩ := cells4w (HX3.out.below hT HX3.out.lt)
      simp [go_sem, evS, f6, gc4, p0, p1, p2, p3]
      exact ⟨fun h => by simpa [sput] using h0 (by simpa [did] using h), fun h => by simpa [sput] using h1 (by simpa [did] using h), fun h => by simpa [sput] using h2 (by simpa [did] using h), fun h => by simpa [sput] using h3 (by simpa [did] using h), fun h => by simpa [sput] using h4 (by simpa [did] using h), fun h => by simpa [sput] using h5 (by simpa [did] using h), fun h => by simpa [sput] using h6 (by simpa [did] using h), fun _ => by simp [sput], fun h => by simpa [sput] using h8 (by simpa [did] using h), fun h => by simpa [sput] using h9 (by simpa [did] using h), fun h => by simpa [sput] using h10 (by simpa [did] using h), fun h => by simpa [sput] using h11 (by simpa [did] using h), hT⟩
    · have gc7 := h7 (by simp [hdep])
      have gc4 := h4 (by simp [hdep])
      refine stepG_on 4 41 false rfl rfl gc4 ?_
      unfold OpSteps
      simp [go_sem, evS, gc7, gc4]
      refine (HRp.out W).mono ?_
      rintro e W' ⟨rfl, hb⟩
      refine ⟨_, rfl, ?_⟩
      exact ⟨fun h => by simpa [sput] using h0 (by simpa [did] using h), fun h => by simpa [sput] using h1 (by simpa [did] using h), fun h => by simpa [sput] using h2 (by simpa [did] using h), fun h => by simpa [sput] using h3 (by simpa [did] using h), fun h => by simpa [sput] using h4 (by simpa [did] using h), fun h => by simpa [sput] using h5 (by simpa [did] using h), fun h => by simpa [sput] using h6 (by simpa [did] using h), fun h => by simpa [sput] using h7 (by simpa [did] using h), fun _ => by simp [sput], fun h => by simpa [sput] using h9 (by simpa [did] using h), fun h => by simpa [sput] using h10 (by simpa [did] using h), fun h => by simpa [sput] using h11 (by simpa [did] using h), below_nx hT hb⟩
    · have gc6 := h6 (by simp [hdep])
      have gc8 := h8 (by simp [hdep])
      have gc4 := h4 (by simp [hdep])
      refine stepG_on 4 41 false rfl rfl gc4 ?_
      unfold OpSteps
      simp [go_sem, evS, gc6, gc8, gc4]
      refine (HF2.out W hT).mono ?_
      rintro e W' ⟨rfl, hb⟩
      refine ⟨_, rfl, ?_⟩
      exact ⟨fun h => by simpa [sput] using h0 (by simpa [did] using h), fun h => by simpa [sput] using h1 (by simpa [did] using h), fun h => by simpa [sput] using h2 (by simpa [did] using h), fun h => by simpa [sput] using h3 (by simpa [did] using h), fun h => by simpa [sput] using h4 (by simpa [did] using h), fun h => by simpa [sput] using h5 (by simpa [did] using h), fun h => by simpa [sput] using h6 (by simpa [did] using h), fun h => by simpa [sput] using h7 (by simpa [did] using h), fun h => by simpa [sput] using h8 (by simpa [did] using h), fun _ => by simp [sput], fun h => by simpa [sput] using h10 (by simpa [did] using h), fun h => by simpa [sput] using h11 (by simpa [did] using h), below_nx hT hb⟩
    · have gc4 := h4 (by simp [hdep])
      have gc9 := h9 (by simp [hdep])
      refine stepG_plain rfl ?_
      unfold OpSteps
      simp [go_sem, evS, gc4, gc9]
      exact ⟨fun h => by simpa [sput] using h0 (by simpa [did] using h), fun h => by simpa [sput] using h1 (by simpa [did] using h), fun h => by simpa [sput] using h2 (by simpa [did] using h), fun h => by simpa [sput] using h3 (by simpa [did] using h), fun h => by simpa [sput] using h4 (by simpa [did] using h), fun h => by simpa [sput] using h5 (by simpa [did] using h), fun h => by simpa [sput] using h6 (by simpa [did] using h), fun h => by simpa [sput] using h7 (by simpa [did] using h), fun h => by simpa [sput] using h8 (by simpa [did] using h), fun h => by simpa [sput] using h9 (by simpa [did] using h), fun _ => by simp [sput], fun h => by simpa [sput] using h11 (by simpa [did] using h), hT⟩
    · have gc10 := h10 (by simp [hdep])
      refine stepG_plain rfl ?_
      unfold OpSteps
      simp [go_sem, evS, gc10]
      exact ⟨fun h => by simpa [sput] using h0 (by simpa [did] using h), fun h => by simpa [sput] using h1 (by simpa [did] using h), fun h => by simpa [sput] using h2 (by simpa [did] using h), fun h => by simpa [sput] using h3 (by simpa [did] using h), fun h => by simpa [sput] using h4 (by simpa [did] using h), fun h => by simpa [sput] using h5 (by simpa [did] using h), fun h => by simpa [sput] using h6 (by simpa [did] using h), fun h => by simpa [sput] using h7 (by simpa [did] using h), fun h => by simpa [sput] using h8 (by simpa [did] using h), fun h => by simpa [sput] using h9 (by simpa [did] using h), fun h => by simpa [sput] using h10 (by simpa [did] using h), fun _ => by simp [sput], hT⟩
  intro d s W hJ hd
  obtain ⟨h0, h1, h2, h3, h4, h5, h6, h7, h8, h9, h10, h11, hT⟩ := hJ
  have hs36 := h11 (hd 11 (by decide))
  have HBe := Lib.hid (HBn.out _ hT)
  clear h0 h1 h2 h3 h4 h5 h6 h7 h8 h9 h10 h11 hT hd
  simp [setAll, hs36]
  clear hs36
  go_wp2_with fail
  go_ret
  exact ⟨rfl, by rw [Hzm.out]; exact HBe.out⟩

set_option maxHeartbeats 1000000 in
theorem gvbegin_any (b g c : Nat) (l : List Nat) (n o K i : Nat) (I : World → Prop) (w : World) (hO : Own w g l) (hln : l.length = n) (hn : n < 1048576) (hi1 : 1 ≤ i) (hr : K = 0 ∨ o + (K - 1) * i < n)
    (hI : I w) (hIb : ∀ W W', I W → Below W.heap.size W W' → I W') (hIs : ∀ W q v, q < K → v < 18446744073709551616 → I W → I (W.setCell ⟨g, o + q * i, none⟩ (.float .f64 v))) :
    Calls Try.prog 67 #[.float .f64 b, vec (some ⟨g, 0, none⟩) n c o K i] w fun e w' => e = .returned (.tuple #[]) ∧
      ∃ m : List Nat, m.length = K ∧ (∀ q, q < K → BegR b (l.getD (o + q * i) 0) (m.getD q 0)) ∧ Own w' g (wrt l o i m K) ∧ I w' ∧ Chg [g] w w' := by
  have HEa := Lib.hid (fun W (ga : Nat) (hb : Below w.heap.size w W) (hz : w.heap.size ≤ ga) (hA : W.cell? ⟨ga, 0, none⟩ = some (.float .f64 b)) =>
    gveach_any 75 #[.pointer (some ⟨ga, 0, none⟩)] (fun W => W.cell? ⟨ga, 0, none⟩ = some (.float .f64 b) ∧ I W) (fun q r => BegR b (l.getD (o + q * i) 0) r) g n c l o K i W
      (fun args W => gvbegin_enters args W) (hO.nxt hb) hln hn hi1 hr ⟨hA, hIb _ _ hI hb⟩ (fun W W' h hb' => ⟨cell_below h.1 hb', hIb _ _ h.2 hb'⟩) (fun W q v hq hR h => ⟨(cell_set (by have := hO.lt; omega) _).trans h.1, hIs _ _ _ hq (BegR.lt hR) h.2⟩)
      (fun W q hq h => (gvbegin_one b (l.getD (o + q * i) 0) q ga W h.1).mono fun e w' ⟨r, e1, e2, e3⟩ => ⟨r, e1, e2, e3⟩))
  clear hO hln hn hr hi1 hI hIb hIs
  unfold vec at *
  go_enter Try.func67, Try.ntmps67
  have HA0 := Lib.hid (show _ from ((Blk.new w 43 #[.float .f64 b]).alloc (.cells #[.slice (some ⟨g, 0, none⟩) n c, .int .i64 o, .int .i64 K, .int .i64 i] 66)).cell 0)
  have HB0 := Lib.hid (((Below.refl w.heap.size w).alloc (Nat.le_refl _) (.cells #[.float .f64 b] 43)).alloc (by simp) (.cells #[.slice (some ⟨g, 0, none⟩) n c, .int .i64 o, .int .i64 K, .int .i64 i] 66))
  have HX := Lib.hid (Blk.new_ (w.alloc (.cells #[.float .f64 b] 43)) 66 #[.slice (some ⟨g, 0, none⟩) n c, .int .i64 o, .int .i64 K, .int .i64 i] (w.heap.size + 1) (by simp))
  obtain ⟨x0, x1, x2, x3⟩ := cells4w HX.out
  go_wp2_with fail
  refine (HEa.out _ _ HB0.out (Nat.le_refl _) HA0.out).mono ?_
  rintro e w2 ⟨rfl, m, hm1, hm2, hm3, hm4, hm5⟩
  have HM := Lib.hid (And.intro hm1 (And.intro hm2 (And.intro hm3 (And.intro hm4.2 hm5))))
  clear hm1 hm2 hm3 hm4 hm5 x0 x1 x2 x3
  go_wp2_with fail
  go_end0
  exact ⟨rfl, m, HM.out.1, HM.out.2.1, HM.out.2.2.1, HM.out.2.2.2.1, (Chg.of_below HB0.out).trans HM.out.2.2.2.2⟩
end Go.Proofs.Ytcdhpoikppfjkaa
