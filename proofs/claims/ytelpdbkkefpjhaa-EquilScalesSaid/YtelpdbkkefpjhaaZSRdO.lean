/-
The document's Of, Sub, Cmp. Conditions: the numbers lie in few digits.
-/
import Derived.Test.YtelpdbkkefpjhaaWSv
set_option linter.unusedVariables false
set_option linter.unusedSimpArgs false
set_option linter.unnecessarySimpa false
namespace Go.Proofs.Ytelpdbkkefpjhaa
open Go.RowKit
attribute [local go_sem ↓] Go.wp_at_zero Go.wp_at_succ

theorem fitd_neg {d : Dyadic} (h : Fitd d) : Fitd (-d) := by
  obtain ⟨lo, k, m, h1, h2, rfl, h4⟩ := h
  exact ⟨lo, k, -m, h1, h2, by rw [dy_neg], by rwa [Int.natAbs_neg]⟩
theorem rof_v (b : Nat) (w : World) (hb : b < 18446744073709551616) (hf : Fl.rung b < Fl.INF) : Calls Try.prog 46 #[.float .f64 b] w (RetV (fdy b) w) := by
  have HP := fun W => parts_any b W hb
  have e1 : partM b = (Fl.pm b : Int) := by unfold partM; rw [if_pos hf]
  have e2 : partE b = (Fl.pe b : Int) - 1074 := by unfold partE; rw [if_pos hf]
  rw [e1, e2] at HP
  have HP := Lib.hid HP
  have HW := Lib.hid (fun W => whole_any (Fl.sg b) (Fl.pm b) W (by have := Fl.pm_lt b; omega))
  have HF := Lib.hid (show Fitd (dy (if Fl.sg b then -(Fl.pm b : Int) else (Fl.pm b : Int)) 0) from fitd_of (j := 53) (by have := Fl.pm_lt b; rw [show (2 : Nat) ^ 53 = 9007199254740992 by decide]; split <;> omega) (by omega) (by omega))
  have HK := Lib.hid (show ((Fl.pe b : Int) - 1074).natAbs ≤ 1099511627776 by have := Fl.pe_lt hf; omega)
  have HV := Lib.hid (show dy (if Fl.sg b then -(Fl.pm b : Int) else (Fl.pm b : Int)) 0 * dy 1 ((Fl.pe b : Int) - 1074) = fdy b by rw [dy_one, Int.zero_add, fdy_parts])
  have HR0 := Lib.hid (Blk.new w 69 #[.bool false, .slice none 0 0, .int .i64 0])
  have HB0 := Lib.hid ((Below.refl w.heap.size w).alloc (Nat.le_refl _) (.cells #[.bool false, .slice none 0 0, .int .i64 0] 69))
  generalize dy (if Fl.sg b then -(Fl.pm b : Int) else (Fl.pm b : Int)) 0 = D0 at *
  generalize Fl.sg b = sb at *
  obtain ⟨ee, hee⟩ : ∃ ee : Int, (Fl.pe b : Int) - 1074 = ee := ⟨_, rfl⟩
  rw [hee] at HP HK HV
  generalize Fl.pm b = pm at *
  clear e1 e2 hee hb hf
  go_enter Try.func46, Try.ntmps46
  go_wp2_with fail
  refine (HP.out _).mono ?_
  rintro e w1 ⟨rfl, rfl⟩
  go_wp2_with fail
  refine (HW.out _).mono ?_
  intro e w1 hr
  obtain ⟨v1, rfl, hv1, hb1⟩ := hr.retv
  have HV1 := Lib.hid hv1
  have HR1 := Lib.hid (HR0.out.next hb1)
  have HB1 := Lib.hid (below_nx HB0.out hb1)
  clear hv1 hb1 hr
  go_wp2_with fail
  refine (rshift_v ee HK.out HV1.out (by exact HF.out)).mono ?_
  rintro e w2 ⟨v9, rfl, ⟨ng9, A9, n9, c9, E9, L9, rfl, hR9, hN9, hd9⟩, hb2⟩
  have HR2 := Lib.hid (HR1.out.next hb2)
  have HB2 := Lib.hid (below_nx HB1.out hb2)
  clear hb2
  replace hd9 := hd9.trans HV.out
  have f0 := HR2.out.frozen 0
  have f1 := HR2.out.frozen 1
  have f2 := HR2.out.frozen 2
  obtain ⟨r0, r1, r2⟩ := cells3 HR2.out
  have HRd9 := Lib.hid hR9
  have HN9 := Lib.hid hN9
  have HD9 := Lib.hid (show rdy ng9 L9 E9 = fdy b from hd9)
  clear hR9 hN9 hd9
  go_wp2_with fail
  obtain ⟨q0, q1, q2⟩ := cells3 (Blk.store3 HR2.out (.bool ng9) (.slice A9 n9 c9) (.int .i64 E9))
  exact bodyPost_ret (v := .agg #[.bool ng9, .slice A9 n9 c9, .int .i64 E9]) (by simp [results, Try.results46, go_sem, q0, q1, q2]) rfl (retR_done HR2.out HRd9.out HN9.out HD9.out HB2.out (by omega)).retv

set_option maxRecDepth 100000 in
set_option maxHeartbeats 4000000 in
theorem rsub_v {v v' : Value} {X Y : Dyadic} {w : World} (h : DV w v X) (h' : DV w v' Y) (hf : Fitd X) (hf' : Fitd Y) :
    Calls Try.prog 69 #[v, v'] w (RetV (X - Y) w) := by
  have HF := Lib.hid (And.intro hf (fitd_neg hf'))
  have HDV := Lib.hid (fun W (hb : Below w.heap.size w W) => h.below hb)
  have HDV' := Lib.hid (fun W (hb : Below w.heap.size w W) => h'.below hb)
  obtain ⟨neg, A, n, c, E, l, rfl, _, _, _⟩ := h
  obtain ⟨neg', A', n', c', E', l', rfl, _, _, _⟩ := h'
  have HX := Lib.hid (((Blk.new w 69 #[.bool neg, .slice A n c, .int .i64 E]).alloc (.cells #[.bool neg', .slice A' n' c', .int .i64 E'] 69)).alloc (.cells #[.bool false, .slice none 0 0, .int .i64 0] 69))
  have HY := Lib.hid ((Blk.new_ (w.alloc (.cells #[.bool neg, .slice A n c, .int .i64 E] 69)) 69 #[.bool neg', .slice A' n' c', .int .i64 E'] (w.heap.size + 1) (by simp)).alloc (.cells #[.bool false, .slice none 0 0, .int .i64 0] 69))
  have HR := Lib.hid (Blk.new_ ((w.alloc (.cells #[.bool neg, .slice A n c, .int .i64 E] 69)).alloc (.cells #[.bool neg', .slice A' n' c', .int .i64 E'] 69)) 69 #[.bool false, .slice none 0 0, .int .i64 0] (w.heap.size + 1 + 1) (by simp))
  have HBr := Lib.hid ((((Below.refl w.heap.size w).alloc (Nat.le_refl _) (.cells #[.bool neg, .slice A n c, .int .i64 E] 69)).alloc (by simp) (.cells #[.bool neg', .slice A' n' c', .int .i64 E'] 69)).alloc (by simp; omega) (.cells #[.bool false, .slice none 0 0, .int .i64 0] 69))
  clear hf hf'
  go_enter Try.func69, Try.ntmps69
  go_wp2_with fail
  generalize hW0 : (((w.alloc (.cells #[.bool neg, .slice A n c, .int .i64 E] 69)).alloc (.cells #[.bool neg', .slice A' n' c', .int .i64 E'] 69)).alloc (.cells #[.bool false, .slice none 0 0, .int .i64 0] 69)) = W0 at *
  clear hW0
  refine wp_region_inv [5, 6, 7, 8] (fun d s W => (d 0 = true → s 5 = .agg #[.bool neg, .slice A n c, .int .i64 E]) ∧ (d 1 = true → s 6 = .agg #[.bool neg', .slice A' n' c', .int .i64 E']) ∧ (d 2 = true → DV W (s 7) (-Y)) ∧ (d 3 = true → DV W (s 8) (X + -Y)) ∧ (d 2 = true → d 1 = true) ∧ (d 3 = true → d 0 = true ∧ d 1 = true ∧ d 2 = true) ∧ (d 4 = true → d 0 = true ∧ d 1 = true ∧ d 2 = true ∧ d 3 = true) ∧ ((d 4 = false → Below W0.heap.size W0 W) ∧ (d 4 = true → Bx W (w.heap.size + 1 + 1) (X + -Y) ∧ Below w.heap.size w W)))
    rfl (by kernel_rfl) ?_ ?_ ?_
  · exact ⟨by simp, by simp, by simp, by simp, by simp, by simp, by simp, ⟨fun _ => (Below.refl _ _).drew, fun h => by simp at h⟩⟩
  · refine ⟨?_, ?_, ?_, ?_, ?_, trivial⟩
    all_goals
      intro d s W hJ hfr hd hdep
      simp only [List.mem_cons, forall_eq_or_imp, List.not_mem_nil, false_implies, implies_true, and_true, Region.binds] at hdep
      have f2 := hfr 2 (by decide)
      have f3 := hfr 3 (by decide)
      have f4 := hfr 4 (by decide)
      simp at f2 f3 f4 hdep
      obtain ⟨h0, h1, h2, h3, x0, x1, x2, hT⟩ := hJ
    · have hl : d 4 = false := by
        cases h : d 4
        · rfl
        · have := x2 h; simp [hd] at this
      replace hT := hT.1 hl
      unfold OpSteps
      obtain ⟨p0, p1, p2⟩ := cells3 (HX.out.below hT HX.out.lt)
      simp [go_sem, evS, f2, p0, p1, p2]
      exact ⟨fun _ => by simp [sput], fun h => by simpa [sput] using h1 (by simpa [did] using h), fun h => by simpa [sput] using h2 (by simpa [did] using h), fun h => by simpa [sput] using h3 (by simpa [did] using h), fun h => by have := x0 (by simpa [did] using h); simp [did, this], fun h => by have := x1 (by simpa [did] using h); simp [did, this], fun h => by have := x2 (by simpa [did] using h); simp [did, this], ⟨fun _ => hT, fun h => by simp [did, hl] at h⟩⟩
    · have hl : d 4 = false := by
        cases h : d 4
        · rfl
        · have := x2 h; simp [hd] at this
      replace hT := hT.1 hl
      unfold OpSteps
      obtain ⟨p0, p1, p2⟩ := cells3 (HY.out.below hT HY.out.lt)
      simp [go_sem, evS, f3, p0, p1, p2]
      exact ⟨fun h => by simpa [sput] using h0 (by simpa [did] using h), fun _ => by simp [sput], fun h => by simpa [sput] using h2 (by simpa [did] using h), fun h => by simpa [sput] using h3 (by simpa [did] using h), fun h => by have := x0 (by simpa [did] using h); simp [did, this], fun h => by have := x1 (by simpa [did] using h); simp [did, this], fun h => by have := x2 (by simpa [did] using h); simp [did, this], ⟨fun _ => hT, fun h => by simp [did, hl] at h⟩⟩
    · have hl : d 4 = false := by
        cases h : d 4
        · rfl
        · have := x2 h; simp [hd] at this
      replace hT := hT.1 hl
      have fz1 := h1 (by simp [hdep])
      unfold OpSteps
      simp [go_sem, evS, fz1]
      refine (rminus_v (HDV'.out W (below_nx HBr.out hT))).mono ?_
      rintro e W' ⟨v9, rfl, hv, hb⟩
      refine ⟨_, rfl, ?_⟩
      exact ⟨fun h => by simpa [sput] using h0 (by simpa [did] using h), fun h => by simpa [sput] using h1 (by simpa [did] using h), fun _ => by simpa [sput] using hv, fun h => by simpa [sput] using (h3 (by simpa [did] using h)).below hb, fun _ => by simp [did, hdep], fun h => by have := x1 (by simpa [did] using h); simp [did, this], fun h => by have := x2 (by simpa [did] using h); simp [did, this], ⟨fun _ => below_nx hT hb, fun h => by simp [did, hl] at h⟩⟩
    · have hl : d 4 = false := by
        cases h : d 4
        · rfl
        · have := x2 h; simp [hd] at this
      replace hT := hT.1 hl
      have fz0 := h0 (by simp [hdep])
      have fz2 := h2 (by simp [hdep])
      unfold OpSteps
      simp [go_sem, evS, fz0, fz2]
      refine (radd_v (HDV.out W (below_nx HBr.out hT)) fz2 HF.out.1 HF.out.2).mono ?_
      rintro e W' ⟨v9, rfl, hv, hb⟩
      refine ⟨_, rfl, ?_⟩
      exact ⟨fun h => by simpa [sput] using h0 (by simpa [did] using h), fun h => by simpa [sput] using h1 (by simpa [did] using h), fun h => by simpa [sput] using (h2 (by simpa [did] using h)).below hb, fun _ => by simpa [sput] using hv, fun h => by have := x0 (by simpa [did] using h); simp [did, this], fun _ => by have y2 := x0 (by simp [hdep]); simp [did, hdep, y2], fun h => by have := x2 (by simpa [did] using h); simp [did, this], ⟨fun _ => below_nx hT hb, fun h => by simp [did, hl] at h⟩⟩
    · have fz3 := h3 (by simp [hdep])
      unfold OpSteps
      replace hT := hT.1 hd
      obtain ⟨ng, A9, n9, c9, E9, L9, gv, gR, gN, gd⟩ := fz3
      have hB9 := HR.out.below hT HR.out.lt
      have fr0 := hB9.frozen 0
      have fr1 := hB9.frozen 1
      have fr2 := hB9.frozen 2
      obtain ⟨k0, k1, k2⟩ := cells3 hB9
      simp [go_sem, evS, f4, gv, fr0, fr1, fr2, k0, k1, k2]
      exact ⟨fun h => by simpa [sput] using h0 (by simpa [did] using h), fun h => by simpa [sput] using h1 (by simpa [did] using h), fun h => by simpa [sput] using ((((h2 (by simpa [did] using h)).far hB9 (by decide) 0 _).far (hB9.set_ 0 _) (by decide) 1 _).far ((hB9.set_ 0 _).set_ 1 _) (by decide) 2 _), fun h => by simpa [sput] using ((((h3 (by simpa [did] using h)).far hB9 (by decide) 0 _).far (hB9.set_ 0 _) (by decide) 1 _).far ((hB9.set_ 0 _).set_ 1 _) (by decide) 2 _), fun h => by have := x0 (by simpa [did] using h); simp [did, this], fun h => by have := x1 (by simpa [did] using h); simp [did, this], fun _ => by have y3 := x1 (by simp [hdep]); simp [did, hdep, y3], ⟨fun h => by simp [did] at h, fun _ => ⟨bx_store hB9 gR gN gd, ((((HBr.out.trans (hT.mono HBr.out.size)).setCell (p := ⟨w.heap.size + 1 + 1, 0, none⟩) (by simp <;> omega) _).setCell (p := ⟨w.heap.size + 1 + 1, 1, none⟩) (by simp <;> omega) _).setCell (p := ⟨w.heap.size + 1 + 1, 2, none⟩) (by simp <;> omega) _)⟩⟩⟩
  intro d s W hJ hd
  obtain ⟨h0, h1, h2, h3, x0, x1, x2, hT⟩ := hJ
  obtain ⟨hBx, hBl⟩ := hT.2 (hd 4 (by decide))
  clear h0 h1 h2 h3 x0 x1 x2 hT hd
  obtain ⟨ng9, A9, n9, c9, E9, L9, hB9, hR9, hN9, hd9⟩ := hBx
  obtain ⟨q0, q1, q2⟩ := cells3 hB9
  have HRet := Lib.hid (show RetV (X - Y) w (.returned (.agg #[.bool ng9, .slice A9 n9 c9, .int .i64 E9])) W from ⟨_, rfl, ⟨ng9, A9, n9, c9, E9, L9, rfl, hR9, hN9, hd9⟩, hBl⟩)
  clear hB9 hR9 hN9 hd9 hBl
  simp [setAll]
  generalize s 5 = s5
  generalize s 6 = s6
  generalize s 7 = s7
  generalize s 8 = s8
  go_wp2_with fail
  exact bodyPost_ret (v := .agg #[.bool ng9, .slice A9 n9 c9, .int .i64 E9]) (by simp [results, Try.results69, go_sem, q0, q1, q2]) rfl HRet.out

set_option maxRecDepth 100000 in
set_option maxHeartbeats 4000000 in
theorem rcmp_v {v v' : Value} {X Y : Dyadic} {w : World} (h : DV w v X) (h' : DV w v' Y) (hf : Fitd X) (hf' : Fitd Y) {m e : Int} (hd : X - Y = dy m e) :
    Calls Try.prog 48 #[v, v'] w fun e w' => e = .returned (.int .i64 m.sign) ∧ Below w.heap.size w w' := by
  have HSub := Lib.hid (fun W (hb : Below w.heap.size w W) => rsub_v (h.below hb) (h'.below hb) hf hf')
  have HD := Lib.hid hd
  obtain ⟨neg, A, n, c, E, l, rfl, _, _, _⟩ := h
  obtain ⟨neg', A', n', c', E', l', rfl, _, _, _⟩ := h'
  have HX := Lib.hid ((Blk.new w 69 #[.bool neg, .slice A n c, .int .i64 E]).alloc (.cells #[.bool neg', .slice A' n' c', .int .i64 E'] 69))
  have HY := Lib.hid (Blk.new_ (w.alloc (.cells #[.bool neg, .slice A n c, .int .i64 E] 69)) 69 #[.bool neg', .slice A' n' c', .int .i64 E'] (w.heap.size + 1) (by simp))
  have HBr := Lib.hid (((Below.refl w.heap.size w).alloc (Nat.le_refl _) (.cells #[.bool neg, .slice A n c, .int .i64 E] 69)).alloc (by simp) (.cells #[.bool neg', .slice A' n' c', .int .i64 E'] 69))
  clear hd hf hf'
  go_enter Try.func48, Try.ntmps48
  obtain ⟨a0, a1, a2⟩ := cells3 HX.out
  obtain ⟨b0, b1, b2⟩ := cells3 HY.out
  go_wp2_with fail
  refine (HSub.out _ HBr.out).mono ?_
  rintro e1 w1 ⟨v1, rfl, hv1, hb1⟩
  have HV1 := Lib.hid hv1
  have HB1 := Lib.hid (below_nx HBr.out hb1)
  clear hv1 hb1
  go_wp2_with fail
  refine (rsign_v HV1.out HD.out).mono ?_
  rintro e2 w2 ⟨rfl, hb2⟩
  have HB2 := Lib.hid (below_nx HB1.out hb2)
  clear hb2
  go_wp2_with fail
  go_ret
  exact ⟨rfl, HB2.out⟩

end Go.Proofs.Ytelpdbkkefpjhaa
