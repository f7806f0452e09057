/-
The document's Of, Sub, Cmp. Conditions: the numbers lie in few digits.
-/
import Derived.Test.YtdokpnfmmbkjfaaGreatDoorZRdN
import Derived.Test.YtdokpnfmmbkjfaaGreatDoorZFdy
set_option linter.unusedVariables false
set_option linter.unusedSimpArgs false
set_option linter.unnecessarySimpa false
namespace Go.Proofs.YtdokpnfmmbkjfaaGreatDoor
open Go.RowKit
attribute [local go_sem ↓] Go.wp_at_zero Go.wp_at_succ

theorem fitd_neg {d : Dyadic} (h : Fitd d) : Fitd (-d) := by
  obtain ⟨lo, k, m, h1, h2, rfl, h4⟩ := h
  exact ⟨lo, k, -m, h1, h2, by rw [dy_neg], by rwa [Int.natAbs_neg]⟩
theorem fitd_float {b : Nat} (h : Fl.rung b < Fl.INF) : Fitd (fdy b) := fitd_of (j := 2098) (val_lt_big 2098 rfl h) (by omega) (by omega)

theorem rof_v (b : Nat) (w : World) (hb : b < 18446744073709551616) (hf : Fl.rung b < Fl.INF) : Calls Tryz.prog 35 #[.float .f64 b] w (RetV (fdy b) w) := by
  have HP := fun W => parts_any b W hb
  have e1 : partM b = (Fl.pm b : Int) := by unfold partM; rw [if_pos hf]
  have e2 : partE b = (Fl.pe b : Int) - 1074 := by unfold partE; rw [if_pos hf]
  rw [e1, e2] at HP
  have HP := Lib.hid HP
  have HW := Lib.hid (fun W => whole_any (Fl.sg b) (Fl.pm b) W (by have := Fl.pm_lt b; omega))
  have HF := Lib.hid (show Fitd (dy (if Fl.sg b then -(Fl.pm b : Int) else (Fl.pm b : Int)) 0) from fitd_of (j := 53) (by have := Fl.pm_lt b; rw [show (2 : Nat) ^ 53 = 9007199254740992 by decide]; split <;> omega) (by omega) (by omega))
  have HK := Lib.hid (show ((Fl.pe b : Int) - 1074).natAbs ≤ 1099511627776 by have := Fl.pe_lt hf; omega)
  have HV := Lib.hid (show dy (if Fl.sg b then -(Fl.pm b : Int) else (Fl.pm b : Int)) 0 * dy 1 ((Fl.pe b : Int) - 1074) = fdy b by rw [dy_one, Int.zero_add, fdy_parts])
  have HR0 := Lib.hid (Blk.new w 30 #[.bool false, .slice none 0 0, .int .i64 0])
  have HB0 := Lib.hid ((Below.refl w.heap.size w).alloc (Nat.le_refl _) (.cells #[.bool false, .slice none 0 0, .int .i64 0] 30))
  generalize dy (if Fl.sg b then -(Fl.pm b : Int) else (Fl.pm b : Int)) 0 = D0 at *
  generalize Fl.sg b = sb at *
  obtain ⟨ee, hee⟩ : ∃ ee : Int, (Fl.pe b : Int) - 1074 = ee := ⟨_, rfl⟩
  rw [hee] at HP HK HV
  generalize Fl.pm b = pm at *
  clear e1 e2 hee hb hf
  go_enter Tryz.func35, Tryz.ntmps35
  go_wp2_with fail
  refine (HP.out _).mono ?_
  rintro e w1 ⟨rfl, rfl⟩
  go_wp2_with fail
  refine (HW.out _).mono ?_
  intro e w1 hr
  obtain ⟨v1, rfl, hv1, hb1⟩ := hr.retv
  have HV1 := Lib.hid hv1
  have HR1 := Lib.hid (HR0.out.next hb1)
  have HB1 := Lib.hid (below_nx HB0.out hb1)
  clear hv1 hb1 hr
  go_wp2_with fail
  refine (rshift_v ee HK.out HV1.out (by exact HF.out)).mono ?_
  rintro e w2 ⟨v9, rfl, ⟨ng9, A9, n9, c9, E9, L9, rfl, hR9, hN9, hd9⟩, hb2⟩
  have HR2 := Lib.hid (HR1.out.next hb2)
  have HB2 := Lib.hid (below_nx HB1.out hb2)
  clear hb2
  replace hd9 := hd9.trans HV.out
  have f0 := HR2.out.frozen 0
  have f1 := HR2.out.frozen 1
  have f2 := HR2.out.frozen 2
  obtain ⟨r0, r1, r2⟩ := cells3 HR2.out
  have HRd9 := Lib.hid hR9
  have HN9 := Lib.hid hN9
  have HD9 := Lib.hid (show rdy ng9 L9 E9 = fdy b from hd9)
  clear hR9 hN9 hd9
  go_wp2_with fail
  obtain ⟨q0, q1, q2⟩ := cells3 (Blk.store3 HR2.out (.bool ng9) (.slice A9 n9 c9) (.int .i64 E9))
  exact bodyPost_ret (v := .agg #[.bool ng9, .slice A9 n9 c9, .int .i64 E9]) (by simp [results, Tryz.results35, go_sem, q0, q1, q2]) rfl (retR_done HR2.out HRd9.out HN9.out HD9.out HB2.out (by omega)).retv

set_option maxRecDepth 100000 in
set_option maxHeartbeats 4000000 in
theorem rsub_v {v v' : Value} {X Y : Dyadic} {w : World} (h : DV w v X) (h' : DV w v' Y) (hf : Fitd X) (hf' : Fitd Y) :
    Calls Tryz.prog 15 #[v, v'] w (RetV (X - Y) w) := by
  have HF := Lib.hid (And.intro hf (fitd_neg hf'))
  have HDV := Lib.hid (fun W (hb : Below w.heap.size w W) => h.below hb)
  have HDV' := Lib.hid (fun W (hb : Below w.heap.size w W) => h'.below hb)
  obtain ⟨neg, A, n, c, E, l, rfl, _, _, _⟩ := h
  obtain ⟨neg', A', n', c', E', l', rfl, _, _, _⟩ := h'
  have HX := Lib.hid (((Blk.new w 30 #[.bool neg, .slice A n c, .int .i64 E]).alloc (.cells #[.bool neg', .slice A' n' c', .int .i64 E'] 30)).alloc (.cells #[.bool false, .slice none 0 0, .int .i64 0] 30))
  have HY := Lib.hid ((Blk.new_ (w.alloc (.cells #[.bool neg, .slice A n c, .int .i64 E] 30)) 30 #[.bool neg', .slice A' n' c', .int .i64 E'] (w.heap.size + 1) (by simp)).alloc (.cells #[.bool false, .slice none 0 0, .int .i64 0] 30))
  have HR := Lib.hid (Blk.new_ ((w.alloc (.cells #[.bool neg, .slice A n c, .int .i64 E] 30)).alloc (.cells #[.bool neg', .slice A' n' c', .int .i64 E'] 30)) 30 #[.bool false, .slice none 0 0, .int .i64 0] (w.heap.size + 1 + 1) (by simp))
  have HBr := Lib.hid ((((Below.refl w.heap.size w).alloc (Nat.le_refl _) (.cells #[.bool neg, .slice A n c, .int .i64 E] 30)).alloc (by simp) (.cells #[.bool neg', .slice A' n' c', .int .i64 E'] 30)).alloc (by simp; omega) (.cells #[.bool false, .slice none 0 0, .int .i64 0] 30))
  clear hf hf'
  go_enter Tryz.func15, Tryz.ntmps15
  go_wp2_with fail
  generalize hW0 : (((w.alloc (.cells #[.bool neg, .slice A n c, .int .i64 E] 30)).alloc (.cells #[.bool neg', .slice A' n' c', .int .i64 E'] 30)).alloc (.cells #[.bool false, .slice none 0 0, .int .i64 0] 30)) = W0 at *
  clear hW0
  refine wp_region_inv [5, 6, 7, 8] (fun d s W => (d 0 = true → s 5 = .agg #[.bool neg, .slice A n c, .int .i64 E]) ∧ (d 1 = true → s 6 = .agg #[.bool neg', .slice A' n' c', .int .i64 E']) ∧ (d 2 = true → DV W (s 7) (-Y)) ∧ (d 3 = true → DV W (s 8) (X + -Y)) ∧ (d 2 = true → d 1 = true) ∧ (d 3 = true → d 0 = true ∧ d 1 = true ∧ d 2 = true) ∧ (d 4 = true → d 0 = true ∧ d 1 = true ∧ d 2 = true ∧ d 3 = true) ∧ ((d 4 = false → Below W0.heap.size W0 W) ∧ (d 4 = true → Bx W (w.heap.size + 1 + 1) (X + -Y) ∧ Below w.heap.size w W)))
    rfl (by kernel_rfl) ?_ ?_ ?_
  · exact ⟨by simp, by simp, by simp, by simp, by simp, by simp, by simp, ⟨fun _ => (Below.refl _ _).drew, fun h => by simp at h⟩⟩
  · refine ⟨?_, ?_, ?_, ?_, ?_, trivial⟩
    all_goals
      intro d s W hJ hfr hd hdep
      simp only [List.mem_cons, forall_eq_or_imp, List.not_mem_nil, false_implies, implies_true, and_true, Region.binds] at hdep
      have f2 := hfr 2 (by decide)
      have f3 := hfr 3 (by decide)
      have f4 := hfr 4 (by decide)
      simp at f2 f3 f4 hdep
      obtain ⟨h0, h1, h2, h3, x0, x1, x2, hT⟩ := hJ
    · have hl : d 4 = false := by
        cases h : d 4
        · rfl
        · have := x2 h; simp [hd] at this
      replace hT := hT.1 hl
      unfold OpSteps
      obtain ⟨p0, p1, p2⟩ := cells3 (HX.out.below hT HX.out.lt)
      simp [go_sem, evS, f2, p0, p1, p2]
      exact ⟨fun _ => by simp [sput], fun h => by simpa [sput] using h1 (by simpa [did] using h), fun h => by simpa [sput] using h2 (by simpa [did] using h), fun h => by simpa [sput] using h3 (by simpa [did] using h), fun h => by have := x0 (by simpa [did] using h); simp [did, this], fun h => by have := x1 (by simpa [did] using h); simp [did, this], fun h => by have := x2 (by simpa [did] using h); simp [did, this], ⟨fun _ => hT, fun h => by simp [did, hl] at h⟩⟩
    · have hl : d 4 = false := by
        cases h : d 4
        · rfl
        · have := x2 h; simp [hd] at this
      replace hT := hT.1 hl
      unfold OpSteps
      obtain ⟨p0, p1, p2⟩ := cells3 (HY.out.below hT HY.out.lt)
      simp [go_sem, evS, f3, p0, p1, p2]
      exact ⟨fun h => by simpa [sput] using h0 (by simpa [did] using h), fun _ => by simp [sput], fun h => by simpa [sput] using h2 (by simpa [did] using h), fun h => by simpa [sput] using h3 (by simpa [did] using h), fun h => by have := x0 (by simpa [did] using h); simp [did, this], fun h => by have := x1 (by simpa [did] using h); simp [did, this], fun h => by have := x2 (by simpa [did] using h); simp [did, this], ⟨fun _ => hT, fun h => by simp [did, hl] at h⟩⟩
    · have hl : d 4 = false := by
        cases h : d 4
        · rfl
        · have := x2 h; simp [hd] at this
      replace hT := hT.1 hl
      have fz1 := h1 (by simp [hdep])
      unfold OpSteps
      simp [go_sem, evS, fz1]
      refine (rminus_v (HDV'.out W (below_nx HBr.out hT))).mono ?_
      rintro e W' ⟨v9, rfl, hv, hb⟩
      refine ⟨_, rfl, ?_⟩
      exact ⟨fun h => by simpa [sput] using h0 (by simpa [did] using h), fun h => by simpa [sput] using h1 (by simpa [did] using h), fun _ => by simpa [sput] using hv, fun h => by simpa [sput] using (h3 (by simpa [did] using h)).below hb, fun _ => by simp [did, hdep], fun h => by have := x1 (by simpa [did] using h); simp [did, this], fun h => by have := x2 (by simpa [did] using h); simp [did, this], ⟨fun _ => below_nx hT hb, fun h => by simp [did, hl] at h⟩⟩
    · have hl : d 4 = false := by
        cases h : d 4
        · rfl
        · have := x2 h; simp [hd] at this
      replace hT := hT.1 hl
      have fz0 := h0 (by simp [hdep])
      have fz2 := h2 (by simp [hdep])
      unfold OpSteps
      simp [go_sem, evS, fz0, fz2]
      refine (radd_v (HDV.out W (below_nx HBr.out hT)) fz2 HF.out.1 HF.out.2).mono ?_
      rintro e W' ⟨v9, rfl, hv, hb⟩
      refine ⟨_, rfl, ?_⟩
      exact ⟨fun h => by simpa [sput] using h0 (by simpa [did] using h), fun h => by simpa [sput] using h1 (by simpa [did] using h), fun h => by simpa [sput] using (h2 (by simpa [did] using h)).below hb, fun _ => by simpa [sput] using hv, fun h => by have := x0 (by simpa [did] using h); simp [did, this], fun _ => by have y2 := x0 (by simp [hdep]); simp [did, hdep, y2], fun h => by have := x2 (by simpa [did] using h); simp [did, this], ⟨fun _ => below_nx hT hb, fun h => by simp [did, hl] at h⟩⟩
    · have fz3 := h3 (by simp [hdep])
      unfold OpSteps
      replace hT := hT.1 hd
      obtain ⟨ng, A9, n9, c9, E9, L9, gv, gR, gN, gd⟩ := fz3
      have hB9 := HR.out.below hT HR.out.lt
      have fr0 := hB9.frozen 0
      have fr1 := hB9.frozen 1
      have fr2 := hB9.frozen 2
      obtain ⟨k0, k1, k2⟩ := cells3 hB9
      simp [go_sem, evS, f4, gv, fr0, fr1, fr2, k0, k1, k2]
      exact ⟨fun h => by simpa [sput] using h0 (by simpa [did] using h), fun h => by simpa [sput] using h1 (by simpa [did] using h), fun h => by simpa [sput] using ((((h2 (by simpa [did] using h)).far hB9 (by decide) 0 _).far (hB9.set_ 0 _) (by decide) 1 _).far ((hB9.set_ 0 _).set_ 1 _) (by decide) 2 _), fun h => by simpa [sput] using ((((h3 (by simpa [did] using h)).far hB9 (by decide) 0 _).far (hB9.set_ 0 _) (by decide) 1 _).far ((hB9.set_ 0 _).set_ 1 _) (by decide) 2 _), fun h => by have := x0 (by simpa [did] using h); simp [did, this], fun h => by have := x1 (by simpa [did] using h); simp [did, this], fun _ => by have y3 := x1 (by simp [hdep]); simp [did, hdep, y3], ⟨fun h => by simp [did] at h, fun _ => ⟨bx_store hB9 gR gN gd, ((((HBr.out.trans (hT.mono HBr.out.size)).setCell (p := ⟨w.heap.size + 1 + 1, 0, none⟩) (by simp <;> omega) _).setCell (p := ⟨w.heap.size + 1 + 1, 1, none⟩) (by simp <;> omega) _).setCell (p := ⟨w.heap.size + 1 + 1, 2, none⟩) (by simp <;> omega) _)⟩⟩⟩
  intro d s W hJ hd
  obtain ⟨h0, h1, h2, h3, x0, x1, x2, hT⟩ := hJ
  obtain ⟨hBx, hBl⟩ := hT.2 (hd 4 (by decide))
  clear h0 h1 h2 h3 x0 x1 x2 hT hd
  obtain ⟨ng9, A9, n9, c9, E9, L9, hB9, hR9, hN9, hd9⟩ := hBx
  obtain ⟨q0, q1, q2⟩ := cells3 hB9
  have HRet := Lib.hid (show RetV (X - Y) w (.returned (.agg #[.bool ng9, .slice A9 n9 c9, .int .i64 E9])) W from ⟨_, rfl, ⟨ng9, A9, n9, c9, E9, L9, rfl, hR9, hN9, hd9⟩, hBl⟩)
  clear hB9 hR9 hN9 hd9 hBl
  simp [setAll]
  generalize s 5 = s5
  generalize s 6 = s6
  generalize s 7 = s7
  generalize s 8 = s8
  go_wp2_with fail
  exact bodyPost_ret (v := .agg #[.bool ng9, .slice A9 n9 c9, .int .i64 E9]) (by simp [results, Tryz.results15, go_sem, q0, q1, q2]) rfl HRet.out

set_option maxRecDepth 100000 in
set_option maxHeartbeats 4000000 in
theorem rcmp_v {v v' : Value} {X Y : Dyadic} {w : World} (h : DV w v X) (h' : DV w v' Y) (hf : Fitd X) (hf' : Fitd Y) {m e : Int} (hd : X - Y = dy m e) :
    Calls Tryz.prog 30 #[v, v'] w fun e w' => e = .returned (.int .i64 m.sign) ∧ Below w.heap.size w w' := by
  have HSub := Lib.hid (fun W (hb : Below w.heap.size w W) => rsub_v (h.below hb) (h'.below hb) hf hf')
  have HD := Lib.hid hd
  obtain ⟨neg, A, n, c, E, l, rfl, _, _, _⟩ := h
  obtain ⟨neg', A', n', c', E', l', rfl, _, _, _⟩ := h'
  have HX := Lib.hid ((Blk.new w 30 #[.bool neg, .slice A n c, .int .i64 E]).alloc (.cells #[.bool neg', .slice A' n' c', .int .i64 E'] 30))
  have HY := Lib.hid (Blk.new_ (w.alloc (.cells #[.bool neg, .slice A n c, .int .i64 E] 30)) 30 #[.bool neg', .slice A' n' c', .int .i64 E'] (w.heap.size + 1) (by simp))
  have HBr := Lib.hid (((Below.refl w.heap.size w).alloc (Nat.le_refl _) (.cells #[.bool neg, .slice A n c, .int .i64 E] 30)).alloc (by simp) (.cells #[.bool neg', .slice A' n' c', .int .i64 E'] 30))
  clear hd hf hf'
  go_enter Tryz.func30, Tryz.ntmps30
  obtain ⟨a0, a1, a2⟩ := cells3 HX.out
  obtain ⟨b0, b1, b2⟩ := cells3 HY.out
  go_wp2_with fail
  refine (HSub.out _ HBr.out).mono ?_
  rintro e1 w1 ⟨v1, rfl, hv1, hb1⟩
  have HV1 := Lib.hid hv1
  have HB1 := Lib.hid (below_nx HBr.out hb1)
  clear hv1 hb1
  go_wp2_with fail
  refine (rsign_v HV1.out HD.out).mono ?_
  rintro e2 w2 ⟨rfl, hb2⟩
  have HB2 := Lib.hid (below_nx HB1.out hb2)
  clear hb2
  go_wp2_with fail
  go_ret
  exact ⟨rfl, HB2.out⟩

end Go.Proofs.YtdokpnfmmbkjfaaGreatDoor
/-
How large a number is, and how fine: what is made of numbers lies in few digits. Conditions: none.
-/
set_option linter.unusedVariables false
namespace Go.Proofs.YtdokpnfmmbkjfaaGreatDoor
open Go.RowKit

/-- Below 2^k, and a multiple of 2^-k. -/
def Sz (k : Nat) (d : Dyadic) : Prop := ∃ m : Int, d = dy m (-(k : Int)) ∧ m.natAbs < 2 ^ (2 * k)
theorem Sz.fit {k : Nat} {d : Dyadic} (h : Sz k d) (hk : k ≤ 134217720) : Fitd d := by
  obtain ⟨m, rfl, hm⟩ := h
  exact fitd_of hm (by omega) (by omega)
theorem Sz.mono {j k : Nat} {d : Dyadic} (h : Sz j d) (hk : j ≤ k) : Sz k d := by
  obtain ⟨m, rfl, hm⟩ := h
  refine ⟨m * 2 ^ (k - j), by rw [dy_pow]; congr 1; omega, ?_⟩
  have e : ((2 : Int) ^ (k - j)).natAbs = 2 ^ (k - j) := by rw [Int.natAbs_pow]; rfl
  rw [Int.natAbs_mul, e]
  have h1 : m.natAbs * 2 ^ (k - j) < 2 ^ (2 * j) * 2 ^ (k - j) := Nat.mul_lt_mul_of_pos_right hm (Nat.two_pow_pos _)
  rw [← Nat.pow_add] at h1
  exact Nat.lt_of_lt_of_le h1 (Nat.pow_le_pow_right (by omega) (by omega))
theorem Sz.add_ {k : Nat} {a b : Dyadic} (h : Sz k a) (h' : Sz k b) : Sz (k + 1) (a + b) := by
  obtain ⟨m, rfl, hm⟩ := h
  obtain ⟨n, rfl, hn⟩ := h'
  refine ⟨(m + n) * 2 ^ 1, by rw [dy_add, dy_pow]; congr 1; omega, ?_⟩
  rw [show 2 * (k + 1) = 2 * k + 2 by omega, Nat.pow_add]
  generalize 2 ^ (2 * k) = P at *
  omega
theorem Sz.add {j k n : Nat} {a b : Dyadic} (h : Sz j a) (h' : Sz k b) (hj : j < n) (hk : k < n) : Sz n (a + b) := by
  obtain ⟨n', rfl⟩ : ∃ n', n = n' + 1 := ⟨n - 1, by omega⟩
  exact (h.mono (by omega)).add_ (h'.mono (by omega))
theorem Sz.neg {k : Nat} {a : Dyadic} (h : Sz k a) : Sz k (-a) := by
  obtain ⟨m, rfl, hm⟩ := h
  exact ⟨-m, by rw [dy_neg], by omega⟩
theorem Sz.sub {j k n : Nat} {a b : Dyadic} (h : Sz j a) (h' : Sz k b) (hj : j < n) (hk : k < n) : Sz n (a - b) := Sz.add h h'.neg hj hk
theorem Sz.abs {k : Nat} {a : Dyadic} (h : Sz k a) : Sz k (dabs a) := by
  obtain ⟨m, rfl, hm⟩ := h
  exact ⟨m.natAbs, by rw [dabs_dy], by omega⟩
theorem Sz.mul {j k n : Nat} {a b : Dyadic} (h : Sz j a) (h' : Sz k b) (hn : j + k ≤ n) : Sz n (a * b) := by
  refine Sz.mono (j := j + k) ?_ hn
  obtain ⟨m, rfl, hm⟩ := h
  obtain ⟨q, rfl, hq⟩ := h'
  refine ⟨m * q, by rw [dy_mul]; congr 1; omega, ?_⟩
  rw [Int.natAbs_mul, show 2 * (j + k) = 2 * j + 2 * k by omega, Nat.pow_add]
  exact Nat.mul_lt_mul'' hm hq
theorem Sz.int {z : Int} {k : Nat} (h : z.natAbs < 2 ^ k) : Sz k (dy z 0) := by
  refine ⟨z * 2 ^ k, by rw [dy_pow]; congr 1; omega, ?_⟩
  have e : ((2 : Int) ^ k).natAbs = 2 ^ k := by rw [Int.natAbs_pow]; rfl
  rw [Int.natAbs_mul, e, show 2 * k = k + k by omega, Nat.pow_add]
  exact Nat.mul_lt_mul_of_pos_right h (Nat.two_pow_pos _)
theorem Sz.pow (s : Int) : Sz (s.natAbs + 1) (dy 1 s) := by
  obtain ⟨t, ht⟩ : ∃ t : Nat, (t : Int) = s + ((s.natAbs + 1 : Nat) : Int) := ⟨(s + ((s.natAbs + 1 : Nat) : Int)).toNat, by omega⟩
  refine ⟨1 * 2 ^ t, by rw [dy_pow]; congr 1; omega, ?_⟩
  have e : ((2 : Int) ^ t).natAbs = 2 ^ t := by rw [Int.natAbs_pow]; rfl
  rw [Int.natAbs_mul, e, show (1 : Int).natAbs = 1 from rfl, Nat.one_mul]
  exact Nat.pow_lt_pow_right (by omega) (by omega)
theorem Sz.shift {j n : Nat} {a : Dyadic} (h : Sz j a) (s : Int) (hn : j + s.natAbs + 1 ≤ n) : Sz n (a * dy 1 s) := h.mul (Sz.pow s) (by omega)
theorem Sz.float {b : Nat} (h : Fl.rung b < Fl.INF) : Sz 1074 (fdy b) := by
  obtain ⟨K, hK⟩ : ∃ K, K = 2098 := ⟨_, rfl⟩
  obtain ⟨J, hJ⟩ : ∃ J, J = 1074 := ⟨_, rfl⟩
  rw [← hJ]
  refine ⟨Fl.val b, by unfold fdy; congr 1; omega, ?_⟩
  exact Nat.lt_of_lt_of_le (val_lt_big K hK h) (Nat.pow_le_pow_right (by omega) (by omega))
theorem Sz.zero (k : Nat) : Sz k 0 := ⟨0, by rw [dy_zero], Nat.two_pow_pos _⟩
/-- A box that a pointer points to, made behind lo. -/
def NewB (W : World) (v : Value) (lo : Nat) : Prop := ∃ (g : Nat) (x0 x1 x2 : Value), v = .pointer (some ⟨g, 0, none⟩) ∧ Blk W g 30 #[x0, x1, x2] ∧ lo ≤ g
theorem NewB.below {W W' : World} {v : Value} {lo : Nat} (h : NewB W v lo) (hb : Below W.heap.size W W') : NewB W' v lo := by
  obtain ⟨g, x0, x1, x2, h1, h2, h3⟩ := h
  exact ⟨g, x0, x1, x2, h1, h2.next hb, h3⟩
/-- A pointer to a box that holds the number. -/
def BxP (W : World) (v : Value) (lo : Nat) (d : Dyadic) : Prop := ∃ g : Nat, v = .pointer (some ⟨g, 0, none⟩) ∧ Bx W g d ∧ lo ≤ g
theorem BxP.below {W W' : World} {v : Value} {lo : Nat} {d : Dyadic} (h : BxP W v lo d) (hb : Below W.heap.size W W') : BxP W' v lo d := by
  obtain ⟨g, h1, h2, h3⟩ := h
  exact ⟨g, h1, h2.below hb, h3⟩
end Go.Proofs.YtdokpnfmmbkjfaaGreatDoor
