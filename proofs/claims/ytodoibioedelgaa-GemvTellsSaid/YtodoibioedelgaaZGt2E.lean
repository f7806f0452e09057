/-
GemvTells, an error. Conditions: as each says.
-/
import Derived.Test.YtodoibioedelgaaGy
import Derived.Test.YtodoibioedelgaaGaa
set_option linter.unusedVariables false
set_option linter.unusedSimpArgs false
set_option linter.unnecessarySimpa false
namespace Go.Proofs.Ytodoibioedelgaa
open Go.RowKit
attribute [local go_sem ↓] Go.wp_at_zero Go.wp_at_succ

set_option maxRecDepth 100000 in
set_option maxHeartbeats 4000000 in
theorem gemvTells_err2 (kd : Int) (a b : Nat) (Am : Option Addr) (nm cm : Nat) (lm : List Nat) (mo mr mk ml : Int) (Ax : Option Addr) (nx cx : Nat) (lx : List Nat) (xo xk xi : Int) (A : Option Addr) (n c : Nat) (l : List Nat) (off k inc : Int) (E : Int) (r0 c0 : Int) (w : World)
    (hAm : Row w Am (f64s lm)) (hAx : Row w Ax (f64s lx)) (hA : Row w A (f64s l)) (hWm : Wds lm) (hWx : Wds lx) (hW : Wds l) (hlm : lm.length = nm) (hlx : lx.length = nx) (hl : l.length = n) (hnm : nm ≤ 1000) (hnx : nx ≤ 1000) (hn : n ≤ 1000)
    (hG : greatB nm mr mk = false) (hLx : longB nx xk = false) (hLy : longB n k = false) (hn0 : 0 < n) (hrc : (kd = 1 ∧ r0 = mk ∧ c0 = mr) ∨ (kd ≠ 1 ∧ r0 = mr ∧ c0 = mk))
    (hPr0 : kd = 0 → ∀ (W : World) (gw cw gm cm9 : Nat), gm ≠ gw → Own W gw l → Own W gm lm → Calls Try.prog 12 #[.float .f64 a, mat (some ⟨gm, 0, none⟩) nm cm9 mo mr mk ml, vec (some ⟨gw, 0, none⟩) n cw xo xk xi, .float .f64 b, vec (some ⟨gw, 0, none⟩) n cw off k inc] W fun e w' => e = .returned (.int .i64 E) ∧ Below W.heap.size W w')
    (hPr1 : kd = 1 → ∀ (W : World) (gw cw gm cm9 : Nat), gm ≠ gw → Own W gw l → Own W gm lm → Calls Try.prog 13 #[.float .f64 a, mat (some ⟨gm, 0, none⟩) nm cm9 mo mr mk ml, vec (some ⟨gw, 0, none⟩) n cw xo xk xi, .float .f64 b, vec (some ⟨gw, 0, none⟩) n cw off k inc] W fun e w' => e = .returned (.int .i64 E) ∧ Below W.heap.size W w')
    (hPr2 : kd ≠ 0 ∧ kd ≠ 1 → ∀ (W : World) (gw cw gm cm9 : Nat), gm ≠ gw → Own W gw l → Own W gm lm → Calls Try.prog 14 #[mat (some ⟨gm, 0, none⟩) nm cm9 mo mr mk ml, vec (some ⟨gw, 0, none⟩) n cw xo xk xi, vec (some ⟨gw, 0, none⟩) n cw off k inc] W fun e w' => e = .returned (.int .i64 E) ∧ Below W.heap.size W w')
    (hCk : ∀ W, Calls Try.prog 15 #[mat Am nm cm mo mr mk ml, .int .i64 r0, .int .i64 c0, vec A n c xo xk xi, vec A n c off k inc, .int .i64 2] W fun e w' => e = .returned (.int .i64 E) ∧ Below W.heap.size W w') (hE : E ≠ 0) :
    Calls Try.prog 3 #[.int .i64 kd, .float .f64 a, mat Am nm cm mo mr mk ml, vec Ax nx cx xo xk xi, .float .f64 b, vec A n c off k inc, .int .i64 2] w fun e w' => e = .returned (.bool true) ∧ Below w.heap.size w w' := by
  have HGr := Lib.hid (fun W => great_any Am nm cm mo mr mk ml W)
  have HLx := Lib.hid (fun W => long_any Ax nx cx xo xk xi W)
  have HLy := Lib.hid (fun W => long_any A n c off k inc W)
  rw [hG] at HGr
  rw [hLx] at HLx
  rw [hLy] at HLy
  have HCp := Lib.hid (fun W (hb : Below w.heap.size w W) => show Calls Try.prog 9 #[.slice A n c] W fun e w' => ∃ g c', e = .returned (.slice (some ⟨g, 0, none⟩) n c') ∧ Own w' g l ∧ W.heap.size ≤ g ∧ Below W.heap.size W w' from by
    have := rcopy_any A c l W (hA.below hb) (by omega)
    rw [hl] at this
    exact this.mono fun e w' ⟨g, c', e1, e2, e3, _, _, e4⟩ => ⟨g, c', e1, e2, e3, e4⟩)
  have HAp := Lib.hid (fun W (hb : Below w.heap.size w W) => show Calls Try.prog 10 #[mat Am nm cm mo mr mk ml] W fun e w' => ∃ g c', e = .returned (mat (some ⟨g, 0, none⟩) nm c' mo mr mk ml) ∧ Own w' g lm ∧ W.heap.size ≤ g ∧ Below W.heap.size W w' from by
    have := rapart_any Am cm lm mo mr mk ml W (hAm.below hb) (by omega)
    rw [hlm] at this
    exact this.mono fun e w' ⟨g, c', e1, e2, e3, _, _, e4⟩ => ⟨g, c', e1, e2, e3, e4⟩)
  have HAl := Lib.hid (fun W (hb : Below w.heap.size w W) => show Calls Try.prog 11 #[vec A n c xo xk xi] W fun e w' => ∃ g c', e = .returned (vec (some ⟨g, 0, none⟩) n c' xo xk xi) ∧ Own w' g l ∧ W.heap.size ≤ g ∧ Below W.heap.size W w' from by
    have := ralone_any A c l xo xk xi W (hA.below hb) (by omega)
    rw [hl] at this
    exact this.mono fun e w' ⟨g, c', e1, e2, e3, _, _, e4⟩ => ⟨g, c', e1, e2, e3, e4⟩)
  have HP0 := Lib.hid hPr0
  have HP1 := Lib.hid hPr1
  have HP2 := Lib.hid hPr2
  have HRc := Lib.hid hrc
  have HCk := Lib.hid hCk
  have HAllm := Lib.hid (fun W (A B : Option Addr) (c d : Nat) (h1 : Row W A (f64s lm)) (h2 : Row W B (f64s lm)) => show Calls Try.prog 16 #[.slice A nm c, .slice B nm d] W fun e w' => e = .returned (.bool true) ∧ Below W.heap.size W w' from by
    have := rall_any A B c d lm lm W hWm hWm h1 h2 (by omega) (Alike.refl lm)
    rw [hlm] at this; exact this)
  have HAllx := Lib.hid (fun W (A B : Option Addr) (c d : Nat) (h1 : Row W A (f64s l)) (h2 : Row W B (f64s l)) => show Calls Try.prog 16 #[.slice A n c, .slice B n d] W fun e w' => e = .returned (.bool true) ∧ Below W.heap.size W w' from by
    have := rall_any A B c d l l W hW hW h1 h2 (by omega) (Alike.refl l)
    rw [hl] at this; exact this)
  have HAlly := Lib.hid (fun W (A B : Option Addr) (c d : Nat) (h1 : Row W A (f64s l)) (h2 : Row W B (f64s l)) => show Calls Try.prog 16 #[.slice A n c, .slice B n d] W fun e w' => e = .returned (.bool true) ∧ Below W.heap.size W w' from by
    have := rall_any A B c d l l W hW hW h1 h2 (by omega) (Alike.refl l)
    rw [hl] at this; exact this)
  have HAm := Lib.hid hAm
  have HAx := Lib.hid hA
  have HAy := Lib.hid hA
  have d1 : decide ((0 : Int) < (n : Int)) = true := by simp; exact hn0
  have d2 : decide (0 < n) = true := by simp; exact hn0
  have t1 : (E == E) = true := by simp
  have t1' : (E != E) = false := by simp
  have t2 : (E == 0) = false := by simp [hE]
  have t2' : (E != 0) = true := by simp [hE]
  clear hAm hAx hA hWm hWx hW hlm hlx hl hnm hnx hn hG hLx hLy hPr0 hPr1 hPr2 hrc hCk hn0 hE
  unfold mat vec at *
  go_enter Try.func3, Try.ntmps3
  have Hm0 := Lib.hid (((Blk.new w 25 #[.slice Am nm cm, .int .i64 mo, .int .i64 mr, .int .i64 mk, .int .i64 ml]).alloc (.cells #[.slice Ax nx cx, .int .i64 xo, .int .i64 xk, .int .i64 xi] 27)).alloc (.cells #[.slice A n c, .int .i64 off, .int .i64 k, .int .i64 inc] 27))
  have Hx0 := Lib.hid ((Blk.new_ (w.alloc (.cells #[.slice Am nm cm, .int .i64 mo, .int .i64 mr, .int .i64 mk, .int .i64 ml] 25)) 27 #[.slice Ax nx cx, .int .i64 xo, .int .i64 xk, .int .i64 xi] (w.heap.size + 1) (by simp)).alloc (.cells #[.slice A n c, .int .i64 off, .int .i64 k, .int .i64 inc] 27))
  have Hy0 := Lib.hid (Blk.new_ ((w.alloc (.cells #[.slice Am nm cm, .int .i64 mo, .int .i64 mr, .int .i64 mk, .int .i64 ml] 25)).alloc (.cells #[.slice Ax nx cx, .int .i64 xo, .int .i64 xk, .int .i64 xi] 27)) 27 #[.slice A n c, .int .i64 off, .int .i64 k, .int .i64 inc] (w.heap.size + 1 + 1) (by simp))
  have HB0 := Lib.hid ((((Below.refl w.heap.size w).alloc (Nat.le_refl _) (.cells #[.slice Am nm cm, .int .i64 mo, .int .i64 mr, .int .i64 mk, .int .i64 ml] 25)).alloc (by simp) (.cells #[.slice Ax nx cx, .int .i64 xo, .int .i64 xk, .int .i64 xi] 27)).alloc (by simp; omega) (.cells #[.slice A n c, .int .i64 off, .int .i64 k, .int .i64 inc] 27))
  obtain ⟨m0, m1, m2, m3, m4⟩ := cells5 Hm0.out
  obtain ⟨x0, x1, x2, x3⟩ := cells4w Hx0.out
  obtain ⟨y0, y1, y2, y3⟩ := cells4w Hy0.out
  go_wp2_with fail
  refine (awake7_any _).mono ?_
  rintro e w1 ⟨rfl, hb⟩
  have Hm1 := Lib.hid (Hm0.out.nxt hb)
  have Hx1 := Lib.hid (Hx0.out.nxt hb)
  have Hy1 := Lib.hid (Hy0.out.nxt hb)
  have HB1 := Lib.hid (below_nx HB0.out hb)
  clear hb
  clear m0 m1 m2 m3 m4 x0 x1 x2 x3 y0 y1 y2 y3
  obtain ⟨m0, m1, m2, m3, m4⟩ := cells5 Hm1.out
  obtain ⟨x0, x1, x2, x3⟩ := cells4w Hx1.out
  obtain ⟨y0, y1, y2, y3⟩ := cells4w Hy1.out
  go_wp2_with fail
  refine (HGr.out _).mono ?_
  rintro e w2 ⟨rfl, hb⟩
  have Hm2 := Lib.hid (Hm1.out.nxt hb)
  have Hx2 := Lib.hid (Hx1.out.nxt hb)
  have Hy2 := Lib.hid (Hy1.out.nxt hb)
  have HB2 := Lib.hid (below_nx HB1.out hb)
  clear hb
  clear m0 m1 m2 m3 m4 x0 x1 x2 x3 y0 y1 y2 y3
  obtain ⟨m0, m1, m2, m3, m4⟩ := cells5 Hm2.out
  obtain ⟨x0, x1, x2, x3⟩ := cells4w Hx2.out
  obtain ⟨y0, y1, y2, y3⟩ := cells4w Hy2.out
  go_wp2_with fail
  refine (HLx.out _).mono ?_
  rintro e w3 ⟨rfl, hb⟩
  have Hm3 := Lib.hid (Hm2.out.nxt hb)
  have Hx3 := Lib.hid (Hx2.out.nxt hb)
  have Hy3 := Lib.hid (Hy2.out.nxt hb)
  have HB3 := Lib.hid (below_nx HB2.out hb)
  clear hb
  clear m0 m1 m2 m3 m4 x0 x1 x2 x3 y0 y1 y2 y3
  obtain ⟨m0, m1, m2, m3, m4⟩ := cells5 Hm3.out
  obtain ⟨x0, x1, x2, x3⟩ := cells4w Hx3.out
  obtain ⟨y0, y1, y2, y3⟩ := cells4w Hy3.out
  go_wp2_with fail
  refine (HLy.out _).mono ?_
  rintro e w4 ⟨rfl, hb⟩
  have Hm4 := Lib.hid (Hm3.out.nxt hb)
  have Hx4 := Lib.hid (Hx3.out.nxt hb)
  have Hy4 := Lib.hid (Hy3.out.nxt hb)
  have HB4 := Lib.hid (below_nx HB3.out hb)
  clear hb
  clear m0 m1 m2 m3 m4 x0 x1 x2 x3 y0 y1 y2 y3
  obtain ⟨m0, m1, m2, m3, m4⟩ := cells5 Hm4.out
  obtain ⟨x0, x1, x2, x3⟩ := cells4w Hx4.out
  obtain ⟨y0, y1, y2, y3⟩ := cells4w Hy4.out
  obtain ⟨f0, _, _, _⟩ := frozen4w Hx4.out
  go_upto_region 11 with fail
  have hb9 : Blk (w4.setCell ⟨w.heap.size + 1, 0, none⟩ (.slice A n c)) (w.heap.size + 1) 27 #[.slice A n c, .int .i64 xo, .int .i64 xk, .int .i64 xi] := by simpa using Hx4.out.set_ 0 (.slice A n c)
  have Hm5 := Lib.hid (Hm4.out.other (p := ⟨w.heap.size + 1, 0, none⟩) ((by first | (simp; done) | (simp; omega))) (.slice A n c))
  have Hy5 := Lib.hid (Hy4.out.other (p := ⟨w.heap.size + 1, 0, none⟩) ((by first | (simp; done) | (simp; omega))) (.slice A n c))
  have Hx5 := Lib.hid hb9
  have HB5 := Lib.hid (HB4.out.setCell (p := ⟨w.heap.size + 1, 0, none⟩) ((by first | (simp; done) | (simp; omega))) (.slice A n c))
  clear m0 m1 m2 m3 m4 x0 x1 x2 x3 y0 y1 y2 y3
  clear hb9 f0
  generalize (w4.setCell ⟨w.heap.size + 1, 0, none⟩ (.slice A n c)) = w4b at *
  obtain ⟨m0, m1, m2, m3, m4⟩ := cells5 Hm5.out
  obtain ⟨x0, x1, x2, x3⟩ := cells4w Hx5.out
  obtain ⟨y0, y1, y2, y3⟩ := cells4w Hy5.out
  go_wp2_with fail
  refine (HCp.out _ HB5.out).mono ?_
  rintro e w5 ⟨gw, cw, rfl, hOw, hgw, hb⟩
  have HGw := Lib.hid (show w.heap.size + 1 + 1 < gw from by have := Hy5.out.lt; omega)
  have Hm6 := Lib.hid (Hm5.out.nxt hb)
  have Hx6 := Lib.hid (Hx5.out.nxt hb)
  have Hy6 := Lib.hid (Hy5.out.nxt hb)
  have HB6 := Lib.hid (below_nx HB5.out hb)
  clear hb
  clear m0 m1 m2 m3 m4 x0 x1 x2 x3 y0 y1 y2 y3
  obtain ⟨m0, m1, m2, m3, m4⟩ := cells5 Hm6.out
  obtain ⟨x0, x1, x2, x3⟩ := cells4w Hx6.out
  obtain ⟨y0, y1, y2, y3⟩ := cells4w Hy6.out
  have Hw6 := Lib.hid hOw
  clear hOw hgw
  go_wp2_with fail
  refine wp_region_inv [66, 67, 68, 69, 70, 17, 18, 19] (fun d s W => (d 0 = true → s 66 = .agg #[.slice Am nm cm, .int .i64 mo, .int .i64 mr, .int .i64 mk, .int .i64 ml]) ∧ (d 1 = true → OwM W (s 67) w5.heap.size lm nm mo mr mk ml) ∧ (d 2 = true → s 68 = .agg #[.slice A n c, .int .i64 xo, .int .i64 xk, .int .i64 xi]) ∧ (d 3 = true → OwV W (s 69) w5.heap.size l n xo xk xi) ∧ (d 4 = true → s 70 = .agg #[.slice A n c, .int .i64 off, .int .i64 k, .int .i64 inc]) ∧ (d 5 = true → NbM W (s 17) w5.heap.size) ∧ (d 6 = true → NbV W (s 18) w5.heap.size) ∧ (d 7 = true → NbV W (s 19) w5.heap.size) ∧ (d 8 = true → PkM W (s 17) w5.heap.size lm nm mo mr mk ml) ∧ (d 9 = true → PkV W (s 18) w5.heap.size l n xo xk xi) ∧ (d 10 = true → PkZ W (s 19) w5.heap.size A n c off k inc) ∧ (d 8 = true → d 5 = true) ∧ (d 9 = true → d 6 = true) ∧ (d 10 = true → d 7 = true) ∧ (d 6 = true → d 7 = true → s 18 ≠ s 19) ∧ Below w5.heap.size w5 W)
    rfl (by kernel_rfl) ?_ ?_ ?_
  · exact ⟨by simp, by simp, by simp, by simp, by simp, by simp, by simp, by simp, by simp, by simp, by simp, by simp, by simp, by simp, by simp, (Below.refl _ _).drew⟩
  · refine ⟨?_, ?_, ?_, ?_, ?_, ?_, ?_, ?_, ?_, ?_, ?_, trivial⟩
    all_goals
      intro d s W hJ hfr hd hdep
      simp only [List.mem_cons, forall_eq_or_imp, List.not_mem_nil, false_implies, implies_true, and_true, Region.binds] at hdep
      have f9 := hfr 9 (by decide)
      have f10 := hfr 10 (by decide)
      have f12 := hfr 12 (by decide)
      simp at f9 f10 f12 hdep
      obtain ⟨h0, h1, h2, h3, h4, h5, h6, h7, h8, h9, h10, x0, x1, x2, x3, hT⟩ := hJ
    · unfold OpSteps
      obtain ⟨p0, p1, p2, p3, p4⟩ := cells5 (Hm6.out.below hT Hm6.out.lt)
      simp [go_sem, evS, f9, p0, p1, p2, p3, p4]
      exact ⟨fun _ => by simp [sput], fun h => by simpa [sput] using h1 (by simpa [did] using h), fun h => by simpa [sput] using h2 (by simpa [did] using h), fun h => by simpa [sput] using h3 (by simpa [did] using h), fun h => by simpa [sput] using h4 (by simpa [did] using h), fun h => by simpa [sput] using h5 (by simpa [did] using h), fun h => by simpa [sput] using h6 (by simpa [did] using h), fun h => by simpa [sput] using h7 (by simpa [did] using h), fun h => by simpa [sput] using h8 (by simpa [did] using h), fun h => by simpa [sput] using h9 (by simpa [did] using h), fun h => by simpa [sput] using h10 (by simpa [did] using h), by simpa [sput, did] using x0, by simpa [sput, did] using x1, by simpa [sput, did] using x2, by simpa [sput, did] using x3, hT⟩
    · have g0 := h0 (by simp [hdep])
      unfold OpSteps
      simp [go_sem, evS, g0]
      refine (HAp.out W (below_nx HB6.out hT)).mono ?_
      rintro e W' ⟨g9, c9, rfl, ho, hg, hb⟩
      refine ⟨_, rfl, ?_⟩
      exact ⟨fun h => by simpa [sput] using h0 (by simpa [did] using h), fun _ => ⟨g9, c9, by simp [sput], ho, Nat.le_trans hT.size hg⟩, fun h => by simpa [sput] using h2 (by simpa [did] using h), fun h => by simpa [sput] using (h3 (by simpa [did] using h)).below hb, fun h => by simpa [sput] using h4 (by simpa [did] using h), fun h => by simpa [sput] using (h5 (by simpa [did] using h)).below hb, fun h => by simpa [sput] using (h6 (by simpa [did] using h)).below hb, fun h => by simpa [sput] using (h7 (by simpa [did] using h)).below hb, fun h => by simpa [sput] using (h8 (by simpa [did] using h)).below hb, fun h => by simpa [sput] using (h9 (by simpa [did] using h)).below hb, fun h => by simpa [sput] using (h10 (by simpa [did] using h)).below hb, by simpa [sput, did] using x0, by simpa [sput, did] using x1, by simpa [sput, did] using x2, by simpa [sput, did] using x3, below_nx hT hb⟩
    · unfold OpSteps
      obtain ⟨p0, p1, p2, p3⟩ := cells4w (Hx6.out.below hT Hx6.out.lt)
      simp [go_sem, evS, f10, p0, p1, p2, p3]
      exact ⟨fun h => by simpa [sput] using h0 (by simpa [did] using h), fun h => by simpa [sput] using h1 (by simpa [did] using h), fun _ => by simp [sput], fun h => by simpa [sput] using h3 (by simpa [did] using h), fun h => by simpa [sput] using h4 (by simpa [did] using h), fun h => by simpa [sput] using h5 (by simpa [did] using h), fun h => by simpa [sput] using h6 (by simpa [did] using h), fun h => by simpa [sput] using h7 (by simpa [did] using h), fun h => by simpa [sput] using h8 (by simpa [did] using h), fun h => by simpa [sput] using h9 (by simpa [did] using h), fun h => by simpa [sput] using h10 (by simpa [did] using h), by simpa [sput, did] using x0, by simpa [sput, did] using x1, by simpa [sput, did] using x2, by simpa [sput, did] using x3, hT⟩
    · have g2 := h2 (by simp [hdep])
      unfold OpSteps
      simp [go_sem, evS, g2]
      refine (HAl.out W (below_nx HB6.out hT)).mono ?_
      rintro e W' ⟨g9, c9, rfl, ho, hg, hb⟩
      refine ⟨_, rfl, ?_⟩
      exact ⟨fun h => by simpa [sput] using h0 (by simpa [did] using h), fun h => by simpa [sput] using (h1 (by simpa [did] using h)).below hb, fun h => by simpa [sput] using h2 (by simpa [did] using h), fun _ => ⟨g9, c9, by simp [sput], ho, Nat.le_trans hT.size hg⟩, fun h => by simpa [sput] using h4 (by simpa [did] using h), fun h => by simpa [sput] using (h5 (by simpa [did] using h)).below hb, fun h => by simpa [sput] using (h6 (by simpa [did] using h)).below hb, fun h => by simpa [sput] using (h7 (by simpa [did] using h)).below hb, fun h => by simpa [sput] using (h8 (by simpa [did] using h)).below hb, fun h => by simpa [sput] using (h9 (by simpa [did] using h)).below hb, fun h => by simpa [sput] using (h10 (by simpa [did] using h)).below hb, by simpa [sput, did] using x0, by simpa [sput, did] using x1, by simpa [sput, did] using x2, by simpa [sput, did] using x3, below_nx hT hb⟩
    · unfold OpSteps
      obtain ⟨p0, p1, p2, p3⟩ := cells4w (Hy6.out.below hT Hy6.out.lt)
      simp [go_sem, evS, f12, p0, p1, p2, p3]
      exact ⟨fun h => by simpa [sput] using h0 (by simpa [did] using h), fun h => by simpa [sput] using h1 (by simpa [did] using h), fun h => by simpa [sput] using h2 (by simpa [did] using h), fun h => by simpa [sput] using h3 (by simpa [did] using h), fun _ => by simp [sput], fun h => by simpa [sput] using h5 (by simpa [did] using h), fun h => by simpa [sput] using h6 (by simpa [did] using h), fun h => by simpa [sput] using h7 (by simpa [did] using h), fun h => by simpa [sput] using h8 (by simpa [did] using h), fun h => by simpa [sput] using h9 (by simpa [did] using h), fun h => by simpa [sput] using h10 (by simpa [did] using h), by simpa [sput, did] using x0, by simpa [sput, did] using x1, by simpa [sput, did] using x2, by simpa [sput, did] using x3, hT⟩
    · unfold OpSteps
      simp [go_sem, evS]
      exact ⟨fun h => by simpa [sput] using h0 (by simpa [did] using h), fun h => by simpa [sput] using (h1 (by simpa [did] using h)).below below_one, fun h => by simpa [sput] using h2 (by simpa [did] using h), fun h => by simpa [sput] using (h3 (by simpa [did] using h)).below below_one, fun h => by simpa [sput] using h4 (by simpa [did] using h), fun _ => ⟨W.heap.size, _, _, _, _, _, by simp [sput], Blk.new W _ _, hT.size⟩, fun h => by simpa [sput] using (h6 (by simpa [did] using h)).below below_one, fun h => by simpa [sput] using (h7 (by simpa [did] using h)).below below_one, fun h => by have := x0 (by simpa [did] using h); simp [hd] at this, fun h => by simpa [sput] using (h9 (by simpa [did] using h)).below below_one, fun h => by simpa [sput] using (h10 (by simpa [did] using h)).below below_one, fun _ => by simp [did], by simpa [sput, did] using x1, by simpa [sput, did] using x2, by simpa [sput, did] using x3, below_al hT⟩
    · unfold OpSteps
      simp [go_sem, evS]
      exact ⟨fun h => by simpa [sput] using h0 (by simpa [did] using h), fun h => by simpa [sput] using (h1 (by simpa [did] using h)).below below_one, fun h => by simpa [sput] using h2 (by simpa [did] using h), fun h => by simpa [sput] using (h3 (by simpa [did] using h)).below below_one, fun h => by simpa [sput] using h4 (by simpa [did] using h), fun h => by simpa [sput] using (h5 (by simpa [did] using h)).below below_one, fun _ => ⟨W.heap.size, _, _, _, _, by simp [sput], Blk.new W _ _, hT.size⟩, fun h => by simpa [sput] using (h7 (by simpa [did] using h)).below below_one, fun h => by simpa [sput] using (h8 (by simpa [did] using h)).below below_one, fun h => by have := x1 (by simpa [did] using h); simp [hd] at this, fun h => by simpa [sput] using (h10 (by simpa [did] using h)).below below_one, by simpa [sput, did] using x0, fun _ => by simp [did], by simpa [sput, did] using x2, fun _ e7 => by have hq := (h7 (by simpa [did] using e7)).new_ne; simp [sput]; exact fun e => hq e.symm, below_al hT⟩
    · unfold OpSteps
      simp [go_sem, evS]
      exact ⟨fun h => by simpa [sput] using h0 (by simpa [did] using h), fun h => by simpa [sput] using (h1 (by simpa [did] using h)).below below_one, fun h => by simpa [sput] using h2 (by simpa [did] using h), fun h => by simpa [sput] using (h3 (by simpa [did] using h)).below below_one, fun h => by simpa [sput] using h4 (by simpa [did] using h), fun h => by simpa [sput] using (h5 (by simpa [did] using h)).below below_one, fun h => by simpa [sput] using (h6 (by simpa [did] using h)).below below_one, fun _ => ⟨W.heap.size, _, _, _, _, by simp [sput], Blk.new W _ _, hT.size⟩, fun h => by simpa [sput] using (h8 (by simpa [did] using h)).below below_one, fun h => by simpa [sput] using (h9 (by simpa [did] using h)).below below_one, fun h => by have := x2 (by simpa [did] using h); simp [hd] at this, by simpa [sput, did] using x0, by simpa [sput, did] using x1, fun _ => by simp [did], fun e6 _ => by have hq := (h6 (by simpa [did] using e6)).new_ne; simp [sput]; exact hq, below_al hT⟩
    · have g5 := h5 (by simp [hdep])
      have g1 := h1 (by simp [hdep])
      unfold OpSteps
      obtain ⟨p9, z0, z1, z2, z3, z4, gp, hB9, hlo⟩ := g5
      obtain ⟨g9, c9, gv, gO, gz⟩ := g1
      obtain ⟨fr0, fr1, fr2, fr3, fr4⟩ := frozen5w hB9
      obtain ⟨k0, k1, k2, k3, k4⟩ := cells5 hB9
      have hfar : ∀ k9, k9 ≠ p9 → _ := fun k9 (hk9 : k9 ≠ p9) => heap_sets5 (w := W) hk9 (.slice (some ⟨g9, 0, none⟩) nm c9) (.int .i64 mo) (.int .i64 mr) (.int .i64 mk) (.int .i64 ml)
      simp [go_sem, evS, gp, gv, fr0, fr1, fr2, fr3, fr4, k0, k1, k2, k3, k4]
      exact ⟨fun h => by simpa [sput] using h0 (by simpa [did] using h), fun h => by simpa [sput] using (h1 (by simpa [did] using h)).far hB9 (by decide) hfar, fun h => by simpa [sput] using h2 (by simpa [did] using h), fun h => by simpa [sput] using (h3 (by simpa [did] using h)).far hB9 (by decide) hfar, fun h => by simpa [sput] using h4 (by simpa [did] using h), fun h => ⟨p9, _, _, _, _, _, by simpa [sput] using gp, Blk.store5 hB9 _ _ _ _ _, hlo⟩, fun h => by simpa [sput] using (h6 (by simpa [did] using h)).far ((h6 (by simpa [did] using h)).ne_ hB9 (by decide)) hfar, fun h => by simpa [sput] using (h7 (by simpa [did] using h)).far ((h7 (by simpa [did] using h)).ne_ hB9 (by decide)) hfar, fun _ => ⟨p9, g9, c9, by simpa [sput] using gp, Blk.store5 hB9 _ _ _ _ _, own_off gO (own_ne gO hB9 (by decide)) hfar, hlo, gz⟩, fun h => by simpa [sput] using (h9 (by simpa [did] using h)).far hB9 (by decide) ((h6 (x1 (by simpa [did] using h))).ne_ hB9 (by decide)) hfar, fun h => by simpa [sput] using (h10 (by simpa [did] using h)).far ((h7 (x2 (by simpa [did] using h))).ne_ hB9 (by decide)) hfar, fun _ => by simp [did, hdep], by simpa [sput, did] using x1, by simpa [sput, did] using x2, by simpa [sput, did] using x3, below_sets5 hT hlo _ _ _ _ _⟩
    · have g6 := h6 (by simp [hdep])
      have g3 := h3 (by simp [hdep])
      unfold OpSteps
      obtain ⟨p9, z0, z1, z2, z3, gp, hB9, hlo⟩ := g6
      obtain ⟨g9, c9, gv, gO, gz⟩ := g3
      have e6 : d 6 = true := by simp [hdep]
      obtain ⟨fr0, fr1, fr2, fr3⟩ := frozen4w hB9
      obtain ⟨k0, k1, k2, k3⟩ := cells4w hB9
      have hfar : ∀ k9, k9 ≠ p9 → _ := fun k9 (hk9 : k9 ≠ p9) => heap_sets4 (w := W) hk9 (.slice (some ⟨g9, 0, none⟩) n c9) (.int .i64 xo) (.int .i64 xk) (.int .i64 xi)
      simp [go_sem, evS, gp, gv, fr0, fr1, fr2, fr3, k0, k1, k2, k3]
      exact ⟨fun h => by simpa [sput] using h0 (by simpa [did] using h), fun h => by simpa [sput] using (h1 (by simpa [did] using h)).far hB9 (by decide) hfar, fun h => by simpa [sput] using h2 (by simpa [did] using h), fun h => by simpa [sput] using (h3 (by simpa [did] using h)).far hB9 (by decide) hfar, fun h => by simpa [sput] using h4 (by simpa [did] using h), fun h => by simpa [sput] using (h5 (by simpa [did] using h)).far ((h5 (by simpa [did] using h)).ne_ hB9 (by decide)) hfar, fun h => ⟨p9, _, _, _, _, by simpa [sput] using gp, Blk.store4v hB9 _ _ _ _, hlo⟩, fun h => by simpa [sput] using (h7 (by simpa [did] using h)).far (fun e => x3 e6 (by simpa [did] using h) (gp.trans e.symm)) hfar, fun h => by simpa [sput] using (h8 (by simpa [did] using h)).far hB9 (by decide) ((h5 (x0 (by simpa [did] using h))).ne_ hB9 (by decide)) hfar, fun _ => ⟨p9, g9, c9, by simpa [sput] using gp, Blk.store4v hB9 _ _ _ _, own_off gO (own_ne gO hB9 (by decide)) hfar, hlo, gz⟩, fun h => by simpa [sput] using (h10 (by simpa [did] using h)).far (fun e => x3 e6 (x2 (by simpa [did] using h)) (gp.trans e.symm)) hfar, by simpa [sput, did] using x0, fun _ => by simp [did, hdep], by simpa [sput, did] using x2, by simpa [sput, did] using x3, below_sets4 hT hlo _ _ _ _⟩
    · have g7 := h7 (by simp [hdep])
      have g4 := h4 (by simp [hdep])
      unfold OpSteps
      obtain ⟨p9, z0, z1, z2, z3, gp, hB9, hlo⟩ := g7
      have e7 : d 7 = true := by simp [hdep]
      obtain ⟨fr0, fr1, fr2, fr3⟩ := frozen4w hB9
      obtain ⟨k0, k1, k2, k3⟩ := cells4w hB9
      have hfar : ∀ k9, k9 ≠ p9 → _ := fun k9 (hk9 : k9 ≠ p9) => heap_sets4 (w := W) hk9 (.slice A n c) (.int .i64 off) (.int .i64 k) (.int .i64 inc)
      simp [go_sem, evS, g4, gp, fr0, fr1, fr2, fr3, k0, k1, k2, k3]
      exact ⟨fun h => by simpa [sput] using h0 (by simpa [did] using h), fun h => by simpa [sput] using (h1 (by simpa [did] using h)).far hB9 (by decide) hfar, fun h => by simpa [sput] using h2 (by simpa [did] using h), fun h => by simpa [sput] using (h3 (by simpa [did] using h)).far hB9 (by decide) hfar, fun h => by simpa [sput] using h4 (by simpa [did] using h), fun h => by simpa [sput] using (h5 (by simpa [did] using h)).far ((h5 (by simpa [did] using h)).ne_ hB9 (by decide)) hfar, fun h => by simpa [sput] using (h6 (by simpa [did] using h)).far (fun e => x3 (by simpa [did] using h) e7 (e.trans gp.symm)) hfar, fun h => ⟨p9, _, _, _, _, by simpa [sput] using gp, Blk.store4v hB9 _ _ _ _, hlo⟩, fun h => by simpa [sput] using (h8 (by simpa [did] using h)).far hB9 (by decide) ((h5 (x0 (by simpa [did] using h))).ne_ hB9 (by decide)) hfar, fun h => by simpa [sput] using (h9 (by simpa [did] using h)).far hB9 (by decide) (fun e => x3 (x1 (by simpa [did] using h)) e7 (e.trans gp.symm)) hfar, fun _ => ⟨p9, by simpa [sput] using gp, Blk.store4v hB9 _ _ _ _, hlo⟩, by simpa [sput, did] using x0, by simpa [sput, did] using x1, fun _ => by simp [did, hdep], by simpa [sput, did] using x3, below_sets4 hT hlo _ _ _ _⟩
  intro d s W hJ hd
  obtain ⟨h0, h1, h2, h3, h4, h5, h6, h7, h8, h9, h10, x0, x1, x2, x3, hT⟩ := hJ
  obtain ⟨pp, gm, cm9, hs17, hBp, hOm, hpl, hgl⟩ := h8 (hd 8 (by decide))
  obtain ⟨pq, gx, cx9, hs18, hBq, hOx, hql, hgl2⟩ := h9 (hd 9 (by decide))
  obtain ⟨pz, hs19, hBz, hzl⟩ := h10 (hd 10 (by decide))
  have hqz : pq ≠ pz := fun e => x3 (hd 6 (by decide)) (hd 7 (by decide)) (by rw [hs18, hs19, e])
  have hpq : pp ≠ pq := blk_ne hBp hBq (by decide)
  have hpz : pp ≠ pz := blk_ne hBp hBz (by decide)
  have hb : Below w5.heap.size w5 W := hT
  clear h0 h1 h2 h3 h4 h5 h6 h7 h8 h9 h10 x0 x1 x2 x3 hT hd
  simp [setAll, hs17, hs18, hs19]
  clear hs17 hs18 hs19
  generalize s 66 = s66
  generalize s 67 = s67
  generalize s 68 = s68
  generalize s 69 = s69
  generalize s 70 = s70
  have hgw5 : gw < w5.heap.size := Hw6.out.lt
  have hy5 : w.heap.size + 1 + 1 < w5.heap.size := Hy6.out.lt
  have HNe := Lib.hid (show gm ≠ gw ∧ gx ≠ gw ∧ pq ≠ pz ∧ pp ≠ pq ∧ pp ≠ pz ∧ w.heap.size + 1 + 1 < pp ∧ w.heap.size + 1 + 1 < pq ∧ w.heap.size + 1 + 1 < pz ∧ w.heap.size + 1 + 1 < gw from by have := HGw.out; refine ⟨by omega, by omega, hqz, hpq, hpz, by omega, by omega, by omega, by omega⟩)
  clear hgw5 hy5 hqz hpq hpz hpl hgl hql hgl2 hzl
  generalize hW6 : W = w6 at *
  clear hW6
  have Hm7 := Lib.hid (Hm6.out.nxt hb)
  have Hx7 := Lib.hid (Hx6.out.nxt hb)
  have Hy7 := Lib.hid (Hy6.out.nxt hb)
  have Hw7 := Lib.hid (Hw6.out.nxt hb)
  have HB7 := Lib.hid (below_nx HB6.out hb)
  clear hb
  clear m0 m1 m2 m3 m4 x0 x1 x2 x3 y0 y1 y2 y3
  obtain ⟨m0, m1, m2, m3, m4⟩ := cells5 Hm7.out
  obtain ⟨x0, x1, x2, x3⟩ := cells4w Hx7.out
  obtain ⟨y0, y1, y2, y3⟩ := cells4w Hy7.out
  have Hp7 := Lib.hid hBp
  have Hq7 := Lib.hid hBq
  have Hz7 := Lib.hid hBz
  have Hu7 := Lib.hid hOm
  have Hv7 := Lib.hid hOx
  clear hBp hBq hBz hOm hOx
  clear m0 m1 m2 m3 m4 x0 x1 x2 x3 y0 y1 y2 y3
  obtain ⟨m0, m1, m2, m3, m4⟩ := cells5 Hm7.out
  obtain ⟨x0, x1, x2, x3⟩ := cells4w Hx7.out
  obtain ⟨y0, y1, y2, y3⟩ := cells4w Hy7.out
  obtain ⟨p0, p1, p2, p3, p4⟩ := cells5 Hp7.out
  obtain ⟨q0, q1, q2, q3⟩ := cells4w Hq7.out
  obtain ⟨z0, z1, z2, z3⟩ := cells4w Hz7.out
  obtain ⟨f0, _, _, _⟩ := frozen4w Hz7.out
  go_upto_region 15 with fail
  have hb9 : Blk (w6.setCell ⟨pz, 0, none⟩ (.slice (some ⟨gw, 0, none⟩) n cw)) (pz) 27 #[.slice (some ⟨gw, 0, none⟩) n cw, .int .i64 off, .int .i64 k, .int .i64 inc] := by simpa using Hz7.out.set_ 0 (.slice (some ⟨gw, 0, none⟩) n cw)
  have Hm8 := Lib.hid (Hm7.out.other (p := ⟨pz, 0, none⟩) ((by have := HNe.out; simp; omega)) (.slice (some ⟨gw, 0, none⟩) n cw))
  have Hx8 := Lib.hid (Hx7.out.other (p := ⟨pz, 0, none⟩) ((by have := HNe.out; simp; omega)) (.slice (some ⟨gw, 0, none⟩) n cw))
  have Hy8 := Lib.hid (Hy7.out.other (p := ⟨pz, 0, none⟩) ((by have := HNe.out; simp; omega)) (.slice (some ⟨gw, 0, none⟩) n cw))
  have Hp8 := Lib.hid (Hp7.out.other (p := ⟨pz, 0, none⟩) ((by have := HNe.out; simp; omega)) (.slice (some ⟨gw, 0, none⟩) n cw))
  have Hq8 := Lib.hid (Hq7.out.other (p := ⟨pz, 0, none⟩) ((by have := HNe.out; simp; omega)) (.slice (some ⟨gw, 0, none⟩) n cw))
  have Hw8 := Lib.hid (Hw7.out.other (p := ⟨pz, 0, none⟩) (own_ne Hw7.out Hz7.out (by decide)) (.slice (some ⟨gw, 0, none⟩) n cw))
  have Hu8 := Lib.hid (Hu7.out.other (p := ⟨pz, 0, none⟩) (own_ne Hu7.out Hz7.out (by decide)) (.slice (some ⟨gw, 0, none⟩) n cw))
  have Hv8 := Lib.hid (Hv7.out.other (p := ⟨pz, 0, none⟩) (own_ne Hv7.out Hz7.out (by decide)) (.slice (some ⟨gw, 0, none⟩) n cw))
  have Hz8 := Lib.hid hb9
  have HB8 := Lib.hid (HB7.out.setCell (p := ⟨pz, 0, none⟩) ((by have := HNe.out; simp; omega)) (.slice (some ⟨gw, 0, none⟩) n cw))
  clear m0 m1 m2 m3 m4 x0 x1 x2 x3 y0 y1 y2 y3 p0 p1 p2 p3 p4 q0 q1 q2 q3 z0 z1 z2 z3
  clear hb9 f0
  generalize (w6.setCell ⟨pz, 0, none⟩ (.slice (some ⟨gw, 0, none⟩) n cw)) = w7 at *
  obtain ⟨m0, m1, m2, m3, m4⟩ := cells5 Hm8.out
  obtain ⟨x0, x1, x2, x3⟩ := cells4w Hx8.out
  obtain ⟨y0, y1, y2, y3⟩ := cells4w Hy8.out
  obtain ⟨p0, p1, p2, p3, p4⟩ := cells5 Hp8.out
  obtain ⟨q0, q1, q2, q3⟩ := cells4w Hq8.out
  obtain ⟨z0, z1, z2, z3⟩ := cells4w Hz8.out
  obtain ⟨f0, _, _, _⟩ := frozen4w Hq8.out
  go_upto_region 19 with fail
  have hb9 : Blk (w7.setCell ⟨pq, 0, none⟩ (.slice (some ⟨gw, 0, none⟩) n cw)) (pq) 27 #[.slice (some ⟨gw, 0, none⟩) n cw, .int .i64 xo, .int .i64 xk, .int .i64 xi] := by simpa using Hq8.out.set_ 0 (.slice (some ⟨gw, 0, none⟩) n cw)
  have Hm9 := Lib.hid (Hm8.out.other (p := ⟨pq, 0, none⟩) ((by have := HNe.out; simp; omega)) (.slice (some ⟨gw, 0, none⟩) n cw))
  have Hx9 := Lib.hid (Hx8.out.other (p := ⟨pq, 0, none⟩) ((by have := HNe.out; simp; omega)) (.slice (some ⟨gw, 0, none⟩) n cw))
  have Hy9 := Lib.hid (Hy8.out.other (p := ⟨pq, 0, none⟩) ((by have := HNe.out; simp; omega)) (.slice (some ⟨gw, 0, none⟩) n cw))
  have Hp9 := Lib.hid (Hp8.out.other (p := ⟨pq, 0, none⟩) ((by have := HNe.out; simp; omega)) (.slice (some ⟨gw, 0, none⟩) n cw))
  have Hz9 := Lib.hid (Hz8.out.other (p := ⟨pq, 0, none⟩) ((by have := HNe.out; simp; omega)) (.slice (some ⟨gw, 0, none⟩) n cw))
  have Hw9 := Lib.hid (Hw8.out.other (p := ⟨pq, 0, none⟩) (own_ne Hw8.out Hq8.out (by decide)) (.slice (some ⟨gw, 0, none⟩) n cw))
  have Hu9 := Lib.hid (Hu8.out.other (p := ⟨pq, 0, none⟩) (own_ne Hu8.out Hq8.out (by decide)) (.slice (some ⟨gw, 0, none⟩) n cw))
  have Hv9 := Lib.hid (Hv8.out.other (p := ⟨pq, 0, none⟩) (own_ne Hv8.out Hq8.out (by decide)) (.slice (some ⟨gw, 0, none⟩) n cw))
  have Hq9 := Lib.hid hb9
  have HB9 := Lib.hid (HB8.out.setCell (p := ⟨pq, 0, none⟩) ((by have := HNe.out; simp; omega)) (.slice (some ⟨gw, 0, none⟩) n cw))
  clear m0 m1 m2 m3 m4 x0 x1 x2 x3 y0 y1 y2 y3 p0 p1 p2 p3 p4 q0 q1 q2 q3 z0 z1 z2 z3
  clear hb9 f0
  generalize (w7.setCell ⟨pq, 0, none⟩ (.slice (some ⟨gw, 0, none⟩) n cw)) = w8 at *
  obtain ⟨m0, m1, m2, m3, m4⟩ := cells5 Hm9.out
  obtain ⟨x0, x1, x2, x3⟩ := cells4w Hx9.out
  obtain ⟨y0, y1, y2, y3⟩ := cells4w Hy9.out
  obtain ⟨p0, p1, p2, p3, p4⟩ := cells5 Hp9.out
  obtain ⟨q0, q1, q2, q3⟩ := cells4w Hq9.out
  obtain ⟨z0, z1, z2, z3⟩ := cells4w Hz9.out
  go_wp2_with fail
  refine wp_region_inv [83, 84, 85, 86, 21, 22] (fun d s W => (d 0 = true → s 83 = .pointer (some ⟨w.heap.size, 2, none⟩)) ∧ (d 1 = true → s 84 = .int .i64 mr) ∧ (d 2 = true → s 85 = .pointer (some ⟨w.heap.size, 3, none⟩)) ∧ (d 3 = true → s 86 = .int .i64 mk) ∧ (d 4 = true → s 21 = .int .i64 mr) ∧ (d 5 = true → s 22 = .int .i64 mk) ∧ Below w8.heap.size w8 W)
    rfl (by kernel_rfl) ?_ ?_ ?_
  · exact ⟨by simp, by simp, by simp, by simp, by simp, by simp, (Below.refl _ _).drew⟩
  · refine ⟨?_, ?_, ?_, ?_, ?_, ?_, trivial⟩
    all_goals
      intro d s W hJ hfr hd hdep
      simp only [List.mem_cons, forall_eq_or_imp, List.not_mem_nil, false_implies, implies_true, and_true, Region.binds] at hdep
      have f9 := hfr 9 (by decide)
      simp at f9 hdep
      obtain ⟨h0, h1, h2, h3, h4, h5, hT⟩ := hJ
    · unfold OpSteps
      simp [go_sem, evS, f9]
      exact ⟨fun _ => by simp [sput], fun h => by simpa [sput] using h1 (by simpa [did] using h), fun h => by simpa [sput] using h2 (by simpa [did] using h), fun h => by simpa [sput] using h3 (by simpa [did] using h), fun h => by simpa [sput] using h4 (by simpa [did] using h), fun h => by simpa [sput] using h5 (by simpa [did] using h), hT⟩
    · have gr0 := h0 (by simp [hdep])
      unfold OpSteps
      obtain ⟨p0, p1, p2, p3, p4⟩ := cells5 (Hm9.out.below hT Hm9.out.lt)
      simp [go_sem, evS, gr0, p0, p1, p2, p3, p4]
      exact ⟨fun h => by simpa [sput] using h0 (by simpa [did] using h), fun _ => by simp [sput], fun h => by simpa [sput] using h2 (by simpa [did] using h), fun h => by simpa [sput] using h3 (by simpa [did] using h), fun h => by simpa [sput] using h4 (by simpa [did] using h), fun h => by simpa [sput] using h5 (by simpa [did] using h), hT⟩
    · unfold OpSteps
      simp [go_sem, evS, f9]
      exact ⟨fun h => by simpa [sput] using h0 (by simpa [did] using h), fun h => by simpa [sput] using h1 (by simpa [did] using h), fun _ => by simp [sput], fun h => by simpa [sput] using h3 (by simpa [did] using h), fun h => by simpa [sput] using h4 (by simpa [did] using h), fun h => by simpa [sput] using h5 (by simpa [did] using h), hT⟩
    · have gr2 := h2 (by simp [hdep])
      unfold OpSteps
      obtain ⟨p0, p1, p2, p3, p4⟩ := cells5 (Hm9.out.below hT Hm9.out.lt)
      simp [go_sem, evS, gr2, p0, p1, p2, p3, p4]
      exact ⟨fun h => by simpa [sput] using h0 (by simpa [did] using h), fun h => by simpa [sput] using h1 (by simpa [did] using h), fun h => by simpa [sput] using h2 (by simpa [did] using h), fun _ => by simp [sput], fun h => by simpa [sput] using h4 (by simpa [did] using h), fun h => by simpa [sput] using h5 (by simpa [did] using h), hT⟩
    · have gr1 := h1 (by simp [hdep])
      unfold OpSteps
      simp [go_sem, evS, gr1]
      exact ⟨fun h => by simpa [sput] using h0 (by simpa [did] using h), fun h => by simpa [sput] using h1 (by simpa [did] using h), fun h => by simpa [sput] using h2 (by simpa [did] using h), fun h => by simpa [sput] using h3 (by simpa [did] using h), fun _ => by simp [sput], fun h => by simpa [sput] using h5 (by simpa [did] using h), hT⟩
    · have gr3 := h3 (by simp [hdep])
      unfold OpSteps
      simp [go_sem, evS, gr3]
      exact ⟨fun h => by simpa [sput] using h0 (by simpa [did] using h), fun h => by simpa [sput] using h1 (by simpa [did] using h), fun h => by simpa [sput] using h2 (by simpa [did] using h), fun h => by simpa [sput] using h3 (by simpa [did] using h), fun h => by simpa [sput] using h4 (by simpa [did] using h), fun _ => by simp [sput], hT⟩
  intro d s W hJ hd
  obtain ⟨h0, h1, h2, h3, h4, h5, hT⟩ := hJ
  have hs21 := h4 (hd 4 (by decide))
  have hs22 := h5 (hd 5 (by decide))
  have hb : Below w8.heap.size w8 W := hT
  clear h0 h1 h2 h3 h4 h5 hT hd
  simp [setAll, hs21, hs22]
  clear hs21 hs22
  generalize s 83 = s83
  generalize s 84 = s84
  generalize s 85 = s85
  generalize s 86 = s86
  generalize W = w9 at *
  have Hm10 := Lib.hid (Hm9.out.nxt hb)
  have Hx10 := Lib.hid (Hx9.out.nxt hb)
  have Hy10 := Lib.hid (Hy9.out.nxt hb)
  have Hp10 := Lib.hid (Hp9.out.nxt hb)
  have Hq10 := Lib.hid (Hq9.out.nxt hb)
  have Hz10 := Lib.hid (Hz9.out.nxt hb)
  have Hw10 := Lib.hid (Hw9.out.nxt hb)
  have Hu10 := Lib.hid (Hu9.out.nxt hb)
  have Hv10 := Lib.hid (Hv9.out.nxt hb)
  have HB10 := Lib.hid (below_nx HB9.out hb)
  clear hb
  clear m0 m1 m2 m3 m4 x0 x1 x2 x3 y0 y1 y2 y3 p0 p1 p2 p3 p4 q0 q1 q2 q3 z0 z1 z2 z3
  obtain ⟨m0, m1, m2, m3, m4⟩ := cells5 Hm10.out
  obtain ⟨x0, x1, x2, x3⟩ := cells4w Hx10.out
  obtain ⟨y0, y1, y2, y3⟩ := cells4w Hy10.out
  obtain ⟨p0, p1, p2, p3, p4⟩ := cells5 Hp10.out
  obtain ⟨q0, q1, q2, q3⟩ := cells4w Hq10.out
  obtain ⟨z0, z1, z2, z3⟩ := cells4w Hz10.out
  go_upto_block 0 with fail
  go_cut [20, 21, 22] (fun e9 r9 c9 wx => e9 = .int .i64 E ∧ r9 = .int .i64 r0 ∧ c9 = .int .i64 c0 ∧ Below w9.heap.size w9 wx)
  case first =>
    by_cases e0 : kd = 0
    · have hrc := HRc.out.resolve_left (fun h => by have := h.1; omega)
      obtain ⟨rfl, rfl⟩ := hrc.2
      have HQ9 := Lib.hid (HP0.out e0)
      subst e0
      go_wp2_with fail
      refine (HQ9.out _ gw cw gm cm9 HNe.out.1 Hw10.out Hu10.out).mono ?_
      rintro e wa ⟨rfl, hq9⟩
      go_wp2_with fail
      go_meet
      exact ⟨rfl, rfl, rfl, hq9⟩
    by_cases e1 : kd = 1
    · have hrc := HRc.out.resolve_right (fun h => h.1 e1)
      obtain ⟨rfl, rfl⟩ := hrc.2
      have HQ9 := Lib.hid (HP1.out e1)
      subst e1
      go_wp2_with fail
      refine (HQ9.out _ gw cw gm cm9 HNe.out.1 Hw10.out Hu10.out).mono ?_
      rintro e wa ⟨rfl, hq9⟩
      go_wp2_with fail
      go_meet
      exact ⟨rfl, rfl, rfl, hq9⟩
    · have hrc := HRc.out.resolve_left (fun h => e1 h.1)
      obtain ⟨rfl, rfl⟩ := hrc.2
      have f0 : (kd == 0) = false := by simp [e0]
      have f1 : (kd == 1) = false := by simp [e1]
      have HQ9 := Lib.hid (HP2.out ⟨e0, e1⟩)
      go_wp2_with fail
      refine (HQ9.out _ gw cw gm cm9 HNe.out.1 Hw10.out Hu10.out).mono ?_
      rintro e wa ⟨rfl, hq9⟩
      go_wp2_with fail
      go_meet
      exact ⟨rfl, rfl, rfl, hq9⟩
  case rest =>
  obtain ⟨rfl, rfl, rfl, hb⟩ := hcut
  generalize wc = wa at *
  have Hm11 := Lib.hid (Hm10.out.nxt hb)
  have Hx11 := Lib.hid (Hx10.out.nxt hb)
  have Hy11 := Lib.hid (Hy10.out.nxt hb)
  have Hp11 := Lib.hid (Hp10.out.nxt hb)
  have Hq11 := Lib.hid (Hq10.out.nxt hb)
  have Hz11 := Lib.hid (Hz10.out.nxt hb)
  have Hw11 := Lib.hid (Hw10.out.nxt hb)
  have Hu11 := Lib.hid (Hu10.out.nxt hb)
  have Hv11 := Lib.hid (Hv10.out.nxt hb)
  have HB11 := Lib.hid (below_nx HB10.out hb)
  clear hb
  clear m0 m1 m2 m3 m4 x0 x1 x2 x3 y0 y1 y2 y3 p0 p1 p2 p3 p4 q0 q1 q2 q3 z0 z1 z2 z3
  obtain ⟨m0, m1, m2, m3, m4⟩ := cells5 Hm11.out
  obtain ⟨x0, x1, x2, x3⟩ := cells4w Hx11.out
  obtain ⟨y0, y1, y2, y3⟩ := cells4w Hy11.out
  obtain ⟨p0, p1, p2, p3, p4⟩ := cells5 Hp11.out
  obtain ⟨q0, q1, q2, q3⟩ := cells4w Hq11.out
  obtain ⟨z0, z1, z2, z3⟩ := cells4w Hz11.out
  go_wp2_with fail
  refine (HCk.out _).mono ?_
  rintro e wb ⟨rfl, hb⟩
  have Hm12 := Lib.hid (Hm11.out.nxt hb)
  have Hx12 := Lib.hid (Hx11.out.nxt hb)
  have Hy12 := Lib.hid (Hy11.out.nxt hb)
  have Hp12 := Lib.hid (Hp11.out.nxt hb)
  have Hq12 := Lib.hid (Hq11.out.nxt hb)
  have Hz12 := Lib.hid (Hz11.out.nxt hb)
  have Hw12 := Lib.hid (Hw11.out.nxt hb)
  have Hu12 := Lib.hid (Hu11.out.nxt hb)
  have Hv12 := Lib.hid (Hv11.out.nxt hb)
  have HB12 := Lib.hid (below_nx HB11.out hb)
  clear hb
  clear m0 m1 m2 m3 m4 x0 x1 x2 x3 y0 y1 y2 y3 p0 p1 p2 p3 p4 q0 q1 q2 q3 z0 z1 z2 z3
  obtain ⟨m0, m1, m2, m3, m4⟩ := cells5 Hm12.out
  obtain ⟨x0, x1, x2, x3⟩ := cells4w Hx12.out
  obtain ⟨y0, y1, y2, y3⟩ := cells4w Hy12.out
  obtain ⟨p0, p1, p2, p3, p4⟩ := cells5 Hp12.out
  obtain ⟨q0, q1, q2, q3⟩ := cells4w Hq12.out
  obtain ⟨z0, z1, z2, z3⟩ := cells4w Hz12.out
  go_wp2_with fail
  refine (HAllm.out _ _ _ _ _ Hu12.out.row (HAm.out.below HB12.out)).mono ?_
  rintro e wcc ⟨rfl, hb⟩
  have Hm13 := Lib.hid (Hm12.out.nxt hb)
  have Hx13 := Lib.hid (Hx12.out.nxt hb)
  have Hy13 := Lib.hid (Hy12.out.nxt hb)
  have Hp13 := Lib.hid (Hp12.out.nxt hb)
  have Hq13 := Lib.hid (Hq12.out.nxt hb)
  have Hz13 := Lib.hid (Hz12.out.nxt hb)
  have Hw13 := Lib.hid (Hw12.out.nxt hb)
  have Hu13 := Lib.hid (Hu12.out.nxt hb)
  have Hv13 := Lib.hid (Hv12.out.nxt hb)
  have HB13 := Lib.hid (below_nx HB12.out hb)
  clear hb
  clear m0 m1 m2 m3 m4 x0 x1 x2 x3 y0 y1 y2 y3 p0 p1 p2 p3 p4 q0 q1 q2 q3 z0 z1 z2 z3
  obtain ⟨m0, m1, m2, m3, m4⟩ := cells5 Hm13.out
  obtain ⟨x0, x1, x2, x3⟩ := cells4w Hx13.out
  obtain ⟨y0, y1, y2, y3⟩ := cells4w Hy13.out
  obtain ⟨p0, p1, p2, p3, p4⟩ := cells5 Hp13.out
  obtain ⟨q0, q1, q2, q3⟩ := cells4w Hq13.out
  obtain ⟨z0, z1, z2, z3⟩ := cells4w Hz13.out
  go_wp2_with fail
  refine (HAllx.out _ _ _ _ _ Hw13.out.row (HAx.out.below HB13.out)).mono ?_
  rintro e wd ⟨rfl, hb⟩
  have Hm14 := Lib.hid (Hm13.out.nxt hb)
  have Hx14 := Lib.hid (Hx13.out.nxt hb)
  have Hy14 := Lib.hid (Hy13.out.nxt hb)
  have Hp14 := Lib.hid (Hp13.out.nxt hb)
  have Hq14 := Lib.hid (Hq13.out.nxt hb)
  have Hz14 := Lib.hid (Hz13.out.nxt hb)
  have Hw14 := Lib.hid (Hw13.out.nxt hb)
  have Hu14 := Lib.hid (Hu13.out.nxt hb)
  have Hv14 := Lib.hid (Hv13.out.nxt hb)
  have HB14 := Lib.hid (below_nx HB13.out hb)
  clear hb
  clear m0 m1 m2 m3 m4 x0 x1 x2 x3 y0 y1 y2 y3 p0 p1 p2 p3 p4 q0 q1 q2 q3 z0 z1 z2 z3
  obtain ⟨m0, m1, m2, m3, m4⟩ := cells5 Hm14.out
  obtain ⟨x0, x1, x2, x3⟩ := cells4w Hx14.out
  obtain ⟨y0, y1, y2, y3⟩ := cells4w Hy14.out
  obtain ⟨p0, p1, p2, p3, p4⟩ := cells5 Hp14.out
  obtain ⟨q0, q1, q2, q3⟩ := cells4w Hq14.out
  obtain ⟨z0, z1, z2, z3⟩ := cells4w Hz14.out
  go_wp2_with fail
  refine (HAlly.out _ _ _ _ _ Hw14.out.row (HAy.out.below HB14.out)).mono ?_
  rintro e we ⟨rfl, hb⟩
  have Hm15 := Lib.hid (Hm14.out.nxt hb)
  have Hx15 := Lib.hid (Hx14.out.nxt hb)
  have Hy15 := Lib.hid (Hy14.out.nxt hb)
  have Hp15 := Lib.hid (Hp14.out.nxt hb)
  have Hq15 := Lib.hid (Hq14.out.nxt hb)
  have Hz15 := Lib.hid (Hz14.out.nxt hb)
  have Hw15 := Lib.hid (Hw14.out.nxt hb)
  have Hu15 := Lib.hid (Hu14.out.nxt hb)
  have Hv15 := Lib.hid (Hv14.out.nxt hb)
  have HB15 := Lib.hid (below_nx HB14.out hb)
  clear hb
  clear m0 m1 m2 m3 m4 x0 x1 x2 x3 y0 y1 y2 y3 p0 p1 p2 p3 p4 q0 q1 q2 q3 z0 z1 z2 z3
  obtain ⟨m0, m1, m2, m3, m4⟩ := cells5 Hm15.out
  obtain ⟨x0, x1, x2, x3⟩ := cells4w Hx15.out
  obtain ⟨y0, y1, y2, y3⟩ := cells4w Hy15.out
  obtain ⟨p0, p1, p2, p3, p4⟩ := cells5 Hp15.out
  obtain ⟨q0, q1, q2, q3⟩ := cells4w Hq15.out
  obtain ⟨z0, z1, z2, z3⟩ := cells4w Hz15.out
  go_wp2_with fail
  refine (awake7_any _).mono ?_
  rintro e wf ⟨rfl, hb⟩
  have Hm16 := Lib.hid (Hm15.out.nxt hb)
  have Hx16 := Lib.hid (Hx15.out.nxt hb)
  have Hy16 := Lib.hid (Hy15.out.nxt hb)
  have Hp16 := Lib.hid (Hp15.out.nxt hb)
  have Hq16 := Lib.hid (Hq15.out.nxt hb)
  have Hz16 := Lib.hid (Hz15.out.nxt hb)
  have Hw16 := Lib.hid (Hw15.out.nxt hb)
  have Hu16 := Lib.hid (Hu15.out.nxt hb)
  have Hv16 := Lib.hid (Hv15.out.nxt hb)
  have HB16 := Lib.hid (below_nx HB15.out hb)
  clear hb
  clear m0 m1 m2 m3 m4 x0 x1 x2 x3 y0 y1 y2 y3 p0 p1 p2 p3 p4 q0 q1 q2 q3 z0 z1 z2 z3
  obtain ⟨m0, m1, m2, m3, m4⟩ := cells5 Hm16.out
  obtain ⟨x0, x1, x2, x3⟩ := cells4w Hx16.out
  obtain ⟨y0, y1, y2, y3⟩ := cells4w Hy16.out
  obtain ⟨p0, p1, p2, p3, p4⟩ := cells5 Hp16.out
  obtain ⟨q0, q1, q2, q3⟩ := cells4w Hq16.out
  obtain ⟨z0, z1, z2, z3⟩ := cells4w Hz16.out
  go_wp2_with fail
  go_ret
  exact ⟨rfl, HB16.out⟩

end Go.Proofs.Ytodoibioedelgaa
