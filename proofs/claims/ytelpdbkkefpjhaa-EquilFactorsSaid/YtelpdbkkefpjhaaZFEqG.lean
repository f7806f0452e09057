/-
EquilFactors. Conditions: none.
-/
import Derived.Test.YtelpdbkkefpjhaaZFEqF
import Derived.Test.YtelpdbkkefpjhaaWFc
import Derived.Test.YtelpdbkkefpjhaaZFMwD
set_option linter.unusedVariables false
set_option linter.unusedSimpArgs false
set_option linter.unnecessarySimpa false
namespace Go.Proofs.Ytelpdbkkefpjhaa
open Go.RowKit
attribute [local go_sem ↓] Go.wp_at_zero Go.wp_at_succ

set_option maxHeartbeats 2000000 in
theorem equilFactors_great (Am : Option Addr) (nm cm : Nat) (mo mr mk ml : Int) (w : World) (h : greatB nm mr mk = true) : Calls Try.prog 3 #[mat Am nm cm mo mr mk ml] w fun e w' => e = .returned (.bool true) ∧ Below w.heap.size w w' := by
  have HGr := Lib.hid (fun W => great_any Am nm cm mo mr mk ml W)
  rw [h] at HGr
  clear h
  unfold mat at *
  go_enter Try.func3, Try.ntmps3
  have Hm0 := Lib.hid (Blk.new w 24 #[.slice Am nm cm, .int .i64 mo, .int .i64 mr, .int .i64 mk, .int .i64 ml])
  have HB0 := Lib.hid ((Below.refl w.heap.size w).alloc (Nat.le_refl _) (.cells #[.slice Am nm cm, .int .i64 mo, .int .i64 mr, .int .i64 mk, .int .i64 ml] 24))
  obtain ⟨m0, m1, m2, m3, m4⟩ := cells5 Hm0.out
  go_wp2_with fail
  refine (awake15_any _).mono ?_
  rintro e w1 ⟨rfl, hb⟩
  have Hm1 := Lib.hid (Hm0.out.nxt hb)
  have HB1 := Lib.hid (below_nx HB0.out hb)
  clear hb
  clear m0 m1 m2 m3 m4
  obtain ⟨m0, m1, m2, m3, m4⟩ := cells5 Hm1.out
  go_wp2_with fail
  refine (HGr.out _).mono ?_
  rintro e w2 ⟨rfl, hb⟩
  have Hm2 := Lib.hid (Hm1.out.nxt hb)
  have HB2 := Lib.hid (below_nx HB1.out hb)
  clear hb
  clear m0 m1 m2 m3 m4
  obtain ⟨m0, m1, m2, m3, m4⟩ := cells5 Hm2.out
  go_wp2_with fail
  refine (awake15_any _).mono ?_
  rintro e w3 ⟨rfl, hb⟩
  have Hm3 := Lib.hid (Hm2.out.nxt hb)
  have HB3 := Lib.hid (below_nx HB2.out hb)
  clear hb
  clear m0 m1 m2 m3 m4
  obtain ⟨m0, m1, m2, m3, m4⟩ := cells5 Hm3.out
  go_wp2_with fail
  go_ret
  exact ⟨rfl, HB3.out⟩

set_option maxRecDepth 100000 in
set_option maxHeartbeats 2000000 in
theorem equilFactors_bad (Am : Option Addr) (nm cm : Nat) (mo mr mk ml : Int) (w : World) (hn : nm ≤ 1000) (hmo : I64 mo) (hmr : I64 mr) (hmk : I64 mk) (hml : I64 ml) (hG : greatB nm mr mk = false) (h : matB nm mo mr mk ml = false) : Calls Try.prog 3 #[mat Am nm cm mo mr mk ml] w fun e w' => e = .returned (.bool true) ∧ Below w.heap.size w w' := by
  have HGr := Lib.hid (fun W => great_any Am nm cm mo mr mk ml W)
  rw [hG] at HGr
  have H1 := Lib.hid (fun W => eqfactors_bad Am nm cm mo mr mk ml W (by omega) hmo hmr hmk hml h)
  have HGm := Lib.hid (fun W => rgood_any Am nm cm mo mr mk ml W (by omega) hmo hmr hmk hml)
  rw [h] at HGm
  clear h hG hn hmo hmr hmk hml
  unfold mat at *
  go_enter Try.func3, Try.ntmps3
  have Hm0 := Lib.hid (Blk.new w 24 #[.slice Am nm cm, .int .i64 mo, .int .i64 mr, .int .i64 mk, .int .i64 ml])
  have HB0 := Lib.hid ((Below.refl w.heap.size w).alloc (Nat.le_refl _) (.cells #[.slice Am nm cm, .int .i64 mo, .int .i64 mr, .int .i64 mk, .int .i64 ml] 24))
  obtain ⟨m0, m1, m2, m3, m4⟩ := cells5 Hm0.out
  go_wp2_with fail
  refine (awake15_any _).mono ?_
  rintro e w1 ⟨rfl, hb⟩
  have Hm1 := Lib.hid (Hm0.out.nxt hb)
  have HB1 := Lib.hid (below_nx HB0.out hb)
  clear hb
  clear m0 m1 m2 m3 m4
  obtain ⟨m0, m1, m2, m3, m4⟩ := cells5 Hm1.out
  go_wp2_with fail
  refine (HGr.out _).mono ?_
  rintro e w2 ⟨rfl, hb⟩
  have Hm2 := Lib.hid (Hm1.out.nxt hb)
  have HB2 := Lib.hid (below_nx HB1.out hb)
  clear hb
  clear m0 m1 m2 m3 m4
  obtain ⟨m0, m1, m2, m3, m4⟩ := cells5 Hm2.out
  go_wp2_with fail
  refine (H1.out _).mono ?_
  rintro e w3 ⟨rfl, hb⟩
  have Hm3 := Lib.hid (Hm2.out.nxt hb)
  have HB3 := Lib.hid (below_nx HB2.out hb)
  clear hb
  clear m0 m1 m2 m3 m4
  obtain ⟨m0, m1, m2, m3, m4⟩ := cells5 Hm3.out
  go_wp2_with fail
  refine (HGm.out _).mono ?_
  rintro e w4 ⟨rfl, hb⟩
  have Hm4 := Lib.hid (Hm3.out.nxt hb)
  have HB4 := Lib.hid (below_nx HB3.out hb)
  clear hb
  clear m0 m1 m2 m3 m4
  obtain ⟨m0, m1, m2, m3, m4⟩ := cells5 Hm4.out
  go_wp2_with fail
  refine (awake15_any _).mono ?_
  rintro e w5 ⟨rfl, hb⟩
  have Hm5 := Lib.hid (Hm4.out.nxt hb)
  have HB5 := Lib.hid (below_nx HB4.out hb)
  clear hb
  clear m0 m1 m2 m3 m4
  obtain ⟨m0, m1, m2, m3, m4⟩ := cells5 Hm5.out
  go_wp2_with fail
  go_ret
  exact ⟨rfl, HB5.out⟩

set_option maxRecDepth 100000 in
set_option maxHeartbeats 2000000 in
theorem equilFactors_nan (Am : Option Addr) (nm cm : Nat) (lm : List Nat) (o R C L : Nat) (w : World) (hAm : Row w Am (f64s lm)) (hWm : Wds lm) (hlm : lm.length = nm) (hnc : nm ≤ cm) (hn : nm ≤ 1000) (hoI : I64 o) (hLI : I64 L) (hR : R ≤ 20) (hC : C ≤ 20) (hL1 : 1 ≤ L) (hRL : R ≤ L) (hmr : R = 0 ∨ C = 0 ∨ o + (C - 1) * L + (R - 1) < nm) (hfin : finsB lm o R C L = false) : Calls Try.prog 3 #[mat Am nm cm o R C L] w fun e w' => e = .returned (.bool true) ∧ Below w.heap.size w w' := by
  have hG : greatB nm (R : Int) (C : Int) = false := by unfold greatB; simp; omega
  have HGr := Lib.hid (fun W => great_any Am nm cm o R C L W)
  rw [hG] at HGr
  have HGm := Lib.hid (fun W => rgood_any Am nm cm o R C L W (by omega) hoI (by unfold I64; omega) (by unfold I64; omega) hLI)
  rw [mat_right hL1 hRL hmr] at HGm
  obtain ⟨N, hN⟩ : ∃ N, R * C = N := ⟨_, rfl⟩
  have hNb : N ≤ 400 := by
    have h1 : R * C ≤ 20 * 20 := Nat.mul_le_mul hR hC
    omega
  have HOf := Lib.hid (fun W (hb : Below w.heap.size w W) => show Calls Try.prog 10 #[mat Am nm cm o R C L] W fun e w' => ∃ g T, e = .returned (tbl R C g N N) ∧ Tab lm o R C L N T ∧ Row w' (some ⟨g, 0, none⟩) (f64s T) ∧ Below W.heap.size W w' from by
    refine (rof_any Am nm cm lm o R C L N W (hAm.below hb) hlm (by omega) hN (by omega) (by omega) (by omega) hmr).mono ?_
    rintro e w' ⟨g', T, e1, e2, e3, _, e4⟩
    exact ⟨g', T, e1, e2, e3, e4⟩)
  have HFn := Lib.hid (fun (g : Nat) T W (hT : Tab lm o R C L N T) (h : Row W (some ⟨g, 0, none⟩) (f64s T)) => show Calls Try.prog 11 #[.slice (some ⟨g, 0, none⟩) N N] W fun e w' => e = .returned (.bool (finsB lm o R C L)) ∧ W = w' from by
    rw [← fins_tab hT hN]
    exact rfin_any (some ⟨g, 0, none⟩) N N T W h (eqwds_tab hT hWm hN) (by rw [hT.1, hN]) (by omega))
  rw [hfin] at HFn
  have H1 := Lib.hid (fun W (hb : Below w.heap.size w W) => eqfactors_nan Am nm cm lm o R C L W (hAm.below hb) hWm hlm hnc (by omega) hoI hLI (by omega) (by omega) hL1 hRL hmr hfin)
  clear hAm hWm hlm hnc hn hoI hLI hR hC hL1 hRL hmr hG hN hNb hfin
  unfold mat tbl at *
  go_enter Try.func3, Try.ntmps3
  have Hm0 := Lib.hid (Blk.new w 24 #[.slice Am nm cm, .int .i64 (o : Int), .int .i64 (R : Int), .int .i64 (C : Int), .int .i64 (L : Int)])
  have HB0 := Lib.hid ((Below.refl w.heap.size w).alloc (Nat.le_refl _) (.cells #[.slice Am nm cm, .int .i64 (o : Int), .int .i64 (R : Int), .int .i64 (C : Int), .int .i64 (L : Int)] 24))
  obtain ⟨m0, m1, m2, m3, m4⟩ := cells5 Hm0.out
  go_wp2_with fail
  refine (awake15_any _).mono ?_
  rintro e w1 ⟨rfl, hb⟩
  have Hm1 := Lib.hid (Hm0.out.nxt hb)
  have HB1 := Lib.hid (below_nx HB0.out hb)
  clear hb
  clear m0 m1 m2 m3 m4
  obtain ⟨m0, m1, m2, m3, m4⟩ := cells5 Hm1.out
  go_wp2_with fail
  refine (HGr.out _).mono ?_
  rintro e w2 ⟨rfl, hb⟩
  have Hm2 := Lib.hid (Hm1.out.nxt hb)
  have HB2 := Lib.hid (below_nx HB1.out hb)
  clear hb
  clear m0 m1 m2 m3 m4
  obtain ⟨m0, m1, m2, m3, m4⟩ := cells5 Hm2.out
  go_wp2_with fail
  refine (H1.out _ HB2.out).mono ?_
  rintro e w3 ⟨rfl, hb⟩
  have Hm3 := Lib.hid (Hm2.out.nxt hb)
  have HB3 := Lib.hid (below_nx HB2.out hb)
  clear hb
  clear m0 m1 m2 m3 m4
  obtain ⟨m0, m1, m2, m3, m4⟩ := cells5 Hm3.out
  go_wp2_with fail
  refine (HGm.out _).mono ?_
  rintro e w4 ⟨rfl, hb⟩
  have Hm4 := Lib.hid (Hm3.out.nxt hb)
  have HB4 := Lib.hid (below_nx HB3.out hb)
  clear hb
  clear m0 m1 m2 m3 m4
  obtain ⟨m0, m1, m2, m3, m4⟩ := cells5 Hm4.out
  go_wp2_with fail
  refine (HOf.out _ HB4.out).mono ?_
  rintro e wf ⟨gT, T, rfl, hT, hRw, hb⟩
  have HTt := Lib.hid hT
  have Hm5 := Lib.hid (Hm4.out.nxt hb)
  have HB5 := Lib.hid (below_nx HB4.out hb)
  clear hb
  clear m0 m1 m2 m3 m4
  obtain ⟨m0, m1, m2, m3, m4⟩ := cells5 Hm5.out
  have HT5 := Lib.hid hRw
  clear hT hRw
  have hb9 : Below wf.heap.size wf (wf.alloc (.cells #[.int .i64 (R : Int), .int .i64 (C : Int), .slice (some ⟨gT, 0, none⟩) N N] 32)) := below_one
  have Hm6 := Lib.hid (Hm5.out.nxt hb9)
  have HT6 := Lib.hid (HT5.out.below hb9)
  have HB6 := Lib.hid (below_nx HB5.out hb9)
  have Ht6 := Lib.hid (Blk.new wf 32 #[.int .i64 (R : Int), .int .i64 (C : Int), .slice (some ⟨gT, 0, none⟩) N N])
  clear hb9
  clear m0 m1 m2 m3 m4
  obtain ⟨m0, m1, m2, m3, m4⟩ := cells5 Hm6.out
  obtain ⟨t0, t1, t2⟩ := cells3v Ht6.out
  go_wp2_with fail
  refine (HFn.out gT T _ HTt.out HT6.out).mono ?_
  rintro e wx ⟨rfl, rfl⟩
  go_wp2_with fail
  refine (awake15_any _).mono ?_
  rintro e w7 ⟨rfl, hb⟩
  have Hm7 := Lib.hid (Hm6.out.nxt hb)
  have Ht7 := Lib.hid (Ht6.out.nxt hb)
  have HT7 := Lib.hid (HT6.out.below hb)
  have HB7 := Lib.hid (below_nx HB6.out hb)
  clear hb
  clear m0 m1 m2 m3 m4 t0 t1 t2
  obtain ⟨m0, m1, m2, m3, m4⟩ := cells5 Hm7.out
  obtain ⟨t0, t1, t2⟩ := cells3v Ht7.out
  go_wp2_with fail
  go_ret
  exact ⟨rfl, HB7.out⟩

set_option maxRecDepth 100000 in
set_option maxHeartbeats 2000000 in
theorem equilFactors_zero (Am : Option Addr) (nm cm : Nat) (lm : List Nat) (o R C L : Nat) (w : World) (hAm : Row w Am (f64s lm)) (hWm : Wds lm) (hlm : lm.length = nm) (hnc : nm ≤ cm) (hn : nm ≤ 1000) (hoI : I64 o) (hLI : I64 L) (hR : R ≤ 20) (hC : C ≤ 20) (hL1 : 1 ≤ L) (hRL : R ≤ L) (hmr : R = 0 ∨ C = 0 ∨ o + (C - 1) * L + (R - 1) < nm) (hfin : finsB lm o R C L = true) (K : Nat) (hK : fAt (tX lm o L) R C = K) (hK0 : K ≠ 0) : Calls Try.prog 3 #[mat Am nm cm o R C L] w fun e w' => e = .returned (.bool true) ∧ Below w.heap.size w w' := by
  have hG : greatB nm (R : Int) (C : Int) = false := by unfold greatB; simp; omega
  have HGr := Lib.hid (fun W => great_any Am nm cm o R C L W)
  rw [hG] at HGr
  have HGm := Lib.hid (fun W => rgood_any Am nm cm o R C L W (by omega) hoI (by unfold I64; omega) (by unfold I64; omega) hLI)
  rw [mat_right hL1 hRL hmr] at HGm
  obtain ⟨N, hN⟩ : ∃ N, R * C = N := ⟨_, rfl⟩
  have hNb : N ≤ 400 := by
    have h1 : R * C ≤ 20 * 20 := Nat.mul_le_mul hR hC
    omega
  have HOf := Lib.hid (fun W (hb : Below w.heap.size w W) => show Calls Try.prog 10 #[mat Am nm cm o R C L] W fun e w' => ∃ g T, e = .returned (tbl R C g N N) ∧ Tab lm o R C L N T ∧ Row w' (some ⟨g, 0, none⟩) (f64s T) ∧ Below W.heap.size W w' from by
    refine (rof_any Am nm cm lm o R C L N W (hAm.below hb) hlm (by omega) hN (by omega) (by omega) (by omega) hmr).mono ?_
    rintro e w' ⟨g', T, e1, e2, e3, _, e4⟩
    exact ⟨g', T, e1, e2, e3, e4⟩)
  have HFn := Lib.hid (fun (g : Nat) T W (hT : Tab lm o R C L N T) (h : Row W (some ⟨g, 0, none⟩) (f64s T)) => show Calls Try.prog 11 #[.slice (some ⟨g, 0, none⟩) N N] W fun e w' => e = .returned (.bool (finsB lm o R C L)) ∧ W = w' from by
    rw [← fins_tab hT hN]
    exact rfin_any (some ⟨g, 0, none⟩) N N T W h (eqwds_tab hT hWm hN) (by rw [hT.1, hN]) (by omega))
  rw [hfin] at HFn
  have H1 := Lib.hid (fun W (hb : Below w.heap.size w W) => show Calls Try.prog 8 #[mat Am nm cm o R C L] W fun e w' => e = .returned (.tuple #[.slice none 0 0, .slice none 0 0, .int .i64 (K : Int), .int .i64 4]) ∧ Below W.heap.size W w' from by
    refine (eqfactors_any Am nm cm lm o R C L W (hAm.below hb) hWm hlm hnc (by omega) hoI hLI (by omega) (by omega) hL1 hRL hmr hfin).mono ?_
    rintro e w' (⟨A, c, B, d, h0, _⟩ | ⟨k, h1, h2, rfl, h3⟩)
    · exact absurd (hK.symm.trans h0) hK0
    · obtain rfl : K = k := hK.symm.trans h1
      exact ⟨rfl, h3⟩)
  have HRf := Lib.hid (fun (g : Nat) T W (hT : Tab lm o R C L N T) (h : Row W (some ⟨g, 0, none⟩) (f64s T)) => show Calls Try.prog 12 #[.agg #[.int .i64 (R : Int), .int .i64 (C : Int), .slice (some ⟨g, 0, none⟩) N N]] W fun e w' => e = .returned (.tuple #[.slice none 0 0, .slice none 0 0, .int .i64 (K : Int)]) ∧ Below W.heap.size W w' from by
    have hcg := fac_congr (X := fun i j => T.getD (i * C + j) 0) (X' := tX lm o L) (R := R) (C := C) (fun i hi j hj => tab_get hT hN hi hj)
    refine (reqfactors_any R C g N N T W h (eqwds_tab hT hWm hN) (by rw [hT.1, hN]) (by omega) hN (by omega) (by omega)).mono ?_
    rintro e w' (⟨A, c, B, d, h0, rfl, h1, h2, h3⟩ | ⟨k, h1, h2, rfl, h3⟩)
    · exact absurd (hK.symm.trans (hcg.1.symm.trans h0)) hK0
    · obtain rfl : K = k := hK.symm.trans (hcg.1.symm.trans h1)
      exact ⟨rfl, h3⟩)

  have hk1 : ((K : Int) != 0) = true := by simp; exact hK0
  have hk2 : ((K : Int) == (K : Int)) = true := by simp
  clear hAm hWm hlm hnc hn hoI hLI hR hC hL1 hRL hmr hG hN hNb hfin hK hK0
  unfold mat tbl at *
  go_enter Try.func3, Try.ntmps3
  have Hm0 := Lib.hid (Blk.new w 24 #[.slice Am nm cm, .int .i64 (o : Int), .int .i64 (R : Int), .int .i64 (C : Int), .int .i64 (L : Int)])
  have HB0 := Lib.hid ((Below.refl w.heap.size w).alloc (Nat.le_refl _) (.cells #[.slice Am nm cm, .int .i64 (o : Int), .int .i64 (R : Int), .int .i64 (C : Int), .int .i64 (L : Int)] 24))
  obtain ⟨m0, m1, m2, m3, m4⟩ := cells5 Hm0.out
  go_wp2_with fail
  refine (awake15_any _).mono ?_
  rintro e w1 ⟨rfl, hb⟩
  have Hm1 := Lib.hid (Hm0.out.nxt hb)
  have HB1 := Lib.hid (below_nx HB0.out hb)
  clear hb
  clear m0 m1 m2 m3 m4
  obtain ⟨m0, m1, m2, m3, m4⟩ := cells5 Hm1.out
  go_wp2_with fail
  refine (HGr.out _).mono ?_
  rintro e w2 ⟨rfl, hb⟩
  have Hm2 := Lib.hid (Hm1.out.nxt hb)
  have HB2 := Lib.hid (below_nx HB1.out hb)
  clear hb
  clear m0 m1 m2 m3 m4
  obtain ⟨m0, m1, m2, m3, m4⟩ := cells5 Hm2.out
  go_wp2_with fail
  refine (H1.out _ HB2.out).mono ?_
  rintro e w3 ⟨rfl, hb⟩
  have Hm3 := Lib.hid (Hm2.out.nxt hb)
  have HB3 := Lib.hid (below_nx HB2.out hb)
  clear hb
  clear m0 m1 m2 m3 m4
  obtain ⟨m0, m1, m2, m3, m4⟩ := cells5 Hm3.out
  go_wp2_with fail
  refine (HGm.out _).mono ?_
  rintro e w4 ⟨rfl, hb⟩
  have Hm4 := Lib.hid (Hm3.out.nxt hb)
  have HB4 := Lib.hid (below_nx HB3.out hb)
  clear hb
  clear m0 m1 m2 m3 m4
  obtain ⟨m0, m1, m2, m3, m4⟩ := cells5 Hm4.out
  go_wp2_with fail
  refine (HOf.out _ HB4.out).mono ?_
  rintro e wf ⟨gT, T, rfl, hT, hRw, hb⟩
  have HTt := Lib.hid hT
  have Hm5 := Lib.hid (Hm4.out.nxt hb)
  have HB5 := Lib.hid (below_nx HB4.out hb)
  clear hb
  clear m0 m1 m2 m3 m4
  obtain ⟨m0, m1, m2, m3, m4⟩ := cells5 Hm5.out
  have HT5 := Lib.hid hRw
  clear hT hRw
  have hb9 : Below wf.heap.size wf (wf.alloc (.cells #[.int .i64 (R : Int), .int .i64 (C : Int), .slice (some ⟨gT, 0, none⟩) N N] 32)) := below_one
  have Hm6 := Lib.hid (Hm5.out.nxt hb9)
  have HT6 := Lib.hid (HT5.out.below hb9)
  have HB6 := Lib.hid (below_nx HB5.out hb9)
  have Ht6 := Lib.hid (Blk.new wf 32 #[.int .i64 (R : Int), .int .i64 (C : Int), .slice (some ⟨gT, 0, none⟩) N N])
  clear hb9
  clear m0 m1 m2 m3 m4
  obtain ⟨m0, m1, m2, m3, m4⟩ := cells5 Hm6.out
  obtain ⟨t0, t1, t2⟩ := cells3v Ht6.out
  go_wp2_with fail
  refine (HFn.out gT T _ HTt.out HT6.out).mono ?_
  rintro e wx ⟨rfl, rfl⟩
  go_wp2_with fail
  refine (HRf.out gT T _ HTt.out HT6.out).mono ?_
  rintro e wh ⟨rfl, hb⟩
  have Hm7 := Lib.hid (Hm6.out.nxt hb)
  have Ht7 := Lib.hid (Ht6.out.nxt hb)
  have HT7 := Lib.hid (HT6.out.below hb)
  have HB7 := Lib.hid (below_nx HB6.out hb)
  clear hb
  clear m0 m1 m2 m3 m4 t0 t1 t2
  obtain ⟨m0, m1, m2, m3, m4⟩ := cells5 Hm7.out
  obtain ⟨t0, t1, t2⟩ := cells3v Ht7.out
  go_wp2_with fail
  refine (awake15_any _).mono ?_
  rintro e w8 ⟨rfl, hb⟩
  have Hm8 := Lib.hid (Hm7.out.nxt hb)
  have Ht8 := Lib.hid (Ht7.out.nxt hb)
  have HT8 := Lib.hid (HT7.out.below hb)
  have HB8 := Lib.hid (below_nx HB7.out hb)
  clear hb
  clear m0 m1 m2 m3 m4 t0 t1 t2
  obtain ⟨m0, m1, m2, m3, m4⟩ := cells5 Hm8.out
  obtain ⟨t0, t1, t2⟩ := cells3v Ht8.out
  go_wp2_with fail
  go_ret
  exact ⟨rfl, HB8.out⟩

set_option maxRecDepth 100000 in
set_option maxHeartbeats 2000000 in
theorem equilFactors_ok (Am : Option Addr) (nm cm : Nat) (lm : List Nat) (o R C L : Nat) (w : World) (hAm : Row w Am (f64s lm)) (hWm : Wds lm) (hlm : lm.length = nm) (hnc : nm ≤ cm) (hn : nm ≤ 1000) (hoI : I64 o) (hLI : I64 L) (hR : R ≤ 20) (hC : C ≤ 20) (hL1 : 1 ≤ L) (hRL : R ≤ L) (hmr : R = 0 ∨ C = 0 ∨ o + (C - 1) * L + (R - 1) < nm) (hfin : finsB lm o R C L = true) (hK : fAt (tX lm o L) R C = 0) : Calls Try.prog 3 #[mat Am nm cm o R C L] w fun e w' => e = .returned (.bool true) ∧ Below w.heap.size w w' := by
  have hG : greatB nm (R : Int) (C : Int) = false := by unfold greatB; simp; omega
  have HGr := Lib.hid (fun W => great_any Am nm cm o R C L W)
  rw [hG] at HGr
  have HGm := Lib.hid (fun W => rgood_any Am nm cm o R C L W (by omega) hoI (by unfold I64; omega) (by unfold I64; omega) hLI)
  rw [mat_right hL1 hRL hmr] at HGm
  obtain ⟨N, hN⟩ : ∃ N, R * C = N := ⟨_, rfl⟩
  have hNb : N ≤ 400 := by
    have h1 : R * C ≤ 20 * 20 := Nat.mul_le_mul hR hC
    omega
  have HOf := Lib.hid (fun W (hb : Below w.heap.size w W) => show Calls Try.prog 10 #[mat Am nm cm o R C L] W fun e w' => ∃ g T, e = .returned (tbl R C g N N) ∧ Tab lm o R C L N T ∧ Row w' (some ⟨g, 0, none⟩) (f64s T) ∧ Below W.heap.size W w' from by
    refine (rof_any Am nm cm lm o R C L N W (hAm.below hb) hlm (by omega) hN (by omega) (by omega) (by omega) hmr).mono ?_
    rintro e w' ⟨g', T, e1, e2, e3, _, e4⟩
    exact ⟨g', T, e1, e2, e3, e4⟩)
  have HFn := Lib.hid (fun (g : Nat) T W (hT : Tab lm o R C L N T) (h : Row W (some ⟨g, 0, none⟩) (f64s T)) => show Calls Try.prog 11 #[.slice (some ⟨g, 0, none⟩) N N] W fun e w' => e = .returned (.bool (finsB lm o R C L)) ∧ W = w' from by
    rw [← fins_tab hT hN]
    exact rfin_any (some ⟨g, 0, none⟩) N N T W h (eqwds_tab hT hWm hN) (by rw [hT.1, hN]) (by omega))
  rw [hfin] at HFn
  have HFc := Lib.hid (fun W (hb : Below w.heap.size w W) => show Calls Try.prog 8 #[mat Am nm cm o R C L] W fun e w' => ∃ A c B d, e = .returned (.tuple #[.slice A R c, .slice B C d, .int .i64 0, .int .i64 0]) ∧ Row w' A (i64s (cnt (rE (tX lm o L) C) R)) ∧ Row w' B (i64s (cnt (cE (tX lm o L) R C) C)) ∧ Below W.heap.size W w' from by
    refine (eqfactors_any Am nm cm lm o R C L W (hAm.below hb) hWm hlm hnc (by omega) hoI hLI (by omega) (by omega) hL1 hRL hmr hfin).mono ?_
    rintro e w' (⟨A, c, B, d, h0, rfl, h1, h2, _, _, h3⟩ | ⟨k, h1, h2, rfl, h3⟩)
    · exact ⟨A, c, B, d, rfl, h1, h2, h3⟩
    · exact absurd (h1.symm.trans hK) h2)
  have HRf := Lib.hid (fun (g : Nat) T W (hT : Tab lm o R C L N T) (h : Row W (some ⟨g, 0, none⟩) (f64s T)) => show Calls Try.prog 12 #[.agg #[.int .i64 (R : Int), .int .i64 (C : Int), .slice (some ⟨g, 0, none⟩) N N]] W fun e w' => ∃ A c B d, e = .returned (.tuple #[.slice A R c, .slice B C d, .int .i64 0]) ∧ Row w' A (i64s (cnt (rE (tX lm o L) C) R)) ∧ Row w' B (i64s (cnt (cE (tX lm o L) R C) C)) ∧ Below W.heap.size W w' from by
    have hcg := fac_congr (X := fun i j => T.getD (i * C + j) 0) (X' := tX lm o L) (R := R) (C := C) (fun i hi j hj => tab_get hT hN hi hj)
    refine (reqfactors_any R C g N N T W h (eqwds_tab hT hWm hN) (by rw [hT.1, hN]) (by omega) hN (by omega) (by omega)).mono ?_
    rintro e w' (⟨A, c, B, d, h0, rfl, h1, h2, h3⟩ | ⟨k, h1, h2, rfl, h3⟩)
    · exact ⟨A, c, B, d, rfl, by rw [← hcg.2.1]; exact h1, by rw [← hcg.2.2]; exact h2, h3⟩
    · exact absurd (h1.symm.trans (hcg.1.trans hK)) h2)

  have HIr := Lib.hid (fun (A B : Option Addr) (c d : Nat) W (hA : Row W A (i64s (cnt (rE (tX lm o L) C) R))) (hB : Row W B (i64s (cnt (rE (tX lm o L) C) R))) => eqints_any A B R c d _ W hA hB (cnt_length _ _) (by omega))
  have HIc := Lib.hid (fun (A B : Option Addr) (c d : Nat) W (hA : Row W A (i64s (cnt (cE (tX lm o L) R C) C))) (hB : Row W B (i64s (cnt (cE (tX lm o L) R C) C))) => eqints_any A B C c d _ W hA hB (cnt_length _ _) (by omega))
  clear hAm hWm hlm hnc hn hoI hLI hR hC hL1 hRL hmr hG hN hNb hfin hK
  generalize cnt (rE (tX lm o L) C) R = zr at *
  generalize cnt (cE (tX lm o L) R C) C = zc at *
  unfold mat tbl at *
  go_enter Try.func3, Try.ntmps3
  have Hm0 := Lib.hid (Blk.new w 24 #[.slice Am nm cm, .int .i64 (o : Int), .int .i64 (R : Int), .int .i64 (C : Int), .int .i64 (L : Int)])
  have HB0 := Lib.hid ((Below.refl w.heap.size w).alloc (Nat.le_refl _) (.cells #[.slice Am nm cm, .int .i64 (o : Int), .int .i64 (R : Int), .int .i64 (C : Int), .int .i64 (L : Int)] 24))
  obtain ⟨m0, m1, m2, m3, m4⟩ := cells5 Hm0.out
  go_wp2_with fail
  refine (awake15_any _).mono ?_
  rintro e w1 ⟨rfl, hb⟩
  have Hm1 := Lib.hid (Hm0.out.nxt hb)
  have HB1 := Lib.hid (below_nx HB0.out hb)
  clear hb
  clear m0 m1 m2 m3 m4
  obtain ⟨m0, m1, m2, m3, m4⟩ := cells5 Hm1.out
  go_wp2_with fail
  refine (HGr.out _).mono ?_
  rintro e w2 ⟨rfl, hb⟩
  have Hm2 := Lib.hid (Hm1.out.nxt hb)
  have HB2 := Lib.hid (below_nx HB1.out hb)
  clear hb
  clear m0 m1 m2 m3 m4
  obtain ⟨m0, m1, m2, m3, m4⟩ := cells5 Hm2.out
  go_wp2_with fail
  refine (HFc.out _ HB2.out).mono ?_
  rintro e wg ⟨A1, c1, A2, c2, rfl, h1, h2, hb⟩
  have Hm3 := Lib.hid (Hm2.out.nxt hb)
  have HB3 := Lib.hid (below_nx HB2.out hb)
  clear hb
  clear m0 m1 m2 m3 m4
  obtain ⟨m0, m1, m2, m3, m4⟩ := cells5 Hm3.out
  have Hra3 := Lib.hid h1
  have Hrb3 := Lib.hid h2
  clear h1 h2
  go_wp2_with fail
  refine (HGm.out _).mono ?_
  rintro e w4 ⟨rfl, hb⟩
  have Hm4 := Lib.hid (Hm3.out.nxt hb)
  have Hra4 := Lib.hid (Hra3.out.below hb)
  have Hrb4 := Lib.hid (Hrb3.out.below hb)
  have HB4 := Lib.hid (below_nx HB3.out hb)
  clear hb
  clear m0 m1 m2 m3 m4
  obtain ⟨m0, m1, m2, m3, m4⟩ := cells5 Hm4.out
  go_wp2_with fail
  refine (HOf.out _ HB4.out).mono ?_
  rintro e wf ⟨gT, T, rfl, hT, hRw, hb⟩
  have HTt := Lib.hid hT
  have Hm5 := Lib.hid (Hm4.out.nxt hb)
  have Hra5 := Lib.hid (Hra4.out.below hb)
  have Hrb5 := Lib.hid (Hrb4.out.below hb)
  have HB5 := Lib.hid (below_nx HB4.out hb)
  clear hb
  clear m0 m1 m2 m3 m4
  obtain ⟨m0, m1, m2, m3, m4⟩ := cells5 Hm5.out
  have HT5 := Lib.hid hRw
  clear hT hRw
  have hb9 : Below wf.heap.size wf (wf.alloc (.cells #[.int .i64 (R : Int), .int .i64 (C : Int), .slice (some ⟨gT, 0, none⟩) N N] 32)) := below_one
  have Hm6 := Lib.hid (Hm5.out.nxt hb9)
  have Hra6 := Lib.hid (Hra5.out.below hb9)
  have Hrb6 := Lib.hid (Hrb5.out.below hb9)
  have HT6 := Lib.hid (HT5.out.below hb9)
  have HB6 := Lib.hid (below_nx HB5.out hb9)
  have Ht6 := Lib.hid (Blk.new wf 32 #[.int .i64 (R : Int), .int .i64 (C : Int), .slice (some ⟨gT, 0, none⟩) N N])
  clear hb9
  clear m0 m1 m2 m3 m4
  obtain ⟨m0, m1, m2, m3, m4⟩ := cells5 Hm6.out
  obtain ⟨t0, t1, t2⟩ := cells3v Ht6.out
  go_wp2_with fail
  refine (HFn.out gT T _ HTt.out HT6.out).mono ?_
  rintro e wx ⟨rfl, rfl⟩
  go_wp2_with fail
  refine (HRf.out gT T _ HTt.out HT6.out).mono ?_
  rintro e wh ⟨A3, c3, A4, c4, rfl, h1, h2, hb⟩
  have Hm7 := Lib.hid (Hm6.out.nxt hb)
  have Ht7 := Lib.hid (Ht6.out.nxt hb)
  have Hra7 := Lib.hid (Hra6.out.below hb)
  have Hrb7 := Lib.hid (Hrb6.out.below hb)
  have HT7 := Lib.hid (HT6.out.below hb)
  have HB7 := Lib.hid (below_nx HB6.out hb)
  clear hb
  clear m0 m1 m2 m3 m4 t0 t1 t2
  obtain ⟨m0, m1, m2, m3, m4⟩ := cells5 Hm7.out
  obtain ⟨t0, t1, t2⟩ := cells3v Ht7.out
  have Hrc7 := Lib.hid h1
  have Hrd7 := Lib.hid h2
  clear h1 h2
  go_wp2_with fail
  refine (HIr.out _ _ _ _ _ Hra7.out Hrc7.out).mono ?_
  rintro e wi ⟨rfl, hb⟩
  have Hm8 := Lib.hid (Hm7.out.nxt hb)
  have Ht8 := Lib.hid (Ht7.out.nxt hb)
  have Hra8 := Lib.hid (Hra7.out.below hb)
  have Hrb8 := Lib.hid (Hrb7.out.below hb)
  have HT8 := Lib.hid (HT7.out.below hb)
  have Hrc8 := Lib.hid (Hrc7.out.below hb)
  have Hrd8 := Lib.hid (Hrd7.out.below hb)
  have HB8 := Lib.hid (below_nx HB7.out hb)
  clear hb
  clear m0 m1 m2 m3 m4 t0 t1 t2
  obtain ⟨m0, m1, m2, m3, m4⟩ := cells5 Hm8.out
  obtain ⟨t0, t1, t2⟩ := cells3v Ht8.out
  go_wp2_with fail
  refine (HIc.out _ _ _ _ _ Hrb8.out Hrd8.out).mono ?_
  rintro e wj ⟨rfl, hb⟩
  have Hm9 := Lib.hid (Hm8.out.nxt hb)
  have Ht9 := Lib.hid (Ht8.out.nxt hb)
  have Hra9 := Lib.hid (Hra8.out.below hb)
  have Hrb9 := Lib.hid (Hrb8.out.below hb)
  have HT9 := Lib.hid (HT8.out.below hb)
  have Hrc9 := Lib.hid (Hrc8.out.below hb)
  have Hrd9 := Lib.hid (Hrd8.out.below hb)
  have HB9 := Lib.hid (below_nx HB8.out hb)
  clear hb
  clear m0 m1 m2 m3 m4 t0 t1 t2
  obtain ⟨m0, m1, m2, m3, m4⟩ := cells5 Hm9.out
  obtain ⟨t0, t1, t2⟩ := cells3v Ht9.out
  go_wp2_with fail
  refine (awake15_any _).mono ?_
  rintro e w10 ⟨rfl, hb⟩
  have Hm10 := Lib.hid (Hm9.out.nxt hb)
  have Ht10 := Lib.hid (Ht9.out.nxt hb)
  have Hra10 := Lib.hid (Hra9.out.below hb)
  have Hrb10 := Lib.hid (Hrb9.out.below hb)
  have HT10 := Lib.hid (HT9.out.below hb)
  have Hrc10 := Lib.hid (Hrc9.out.below hb)
  have Hrd10 := Lib.hid (Hrd9.out.below hb)
  have HB10 := Lib.hid (below_nx HB9.out hb)
  clear hb
  clear m0 m1 m2 m3 m4 t0 t1 t2
  obtain ⟨m0, m1, m2, m3, m4⟩ := cells5 Hm10.out
  obtain ⟨t0, t1, t2⟩ := cells3v Ht10.out
  go_wp2_with fail
  go_ret
  exact ⟨rfl, HB10.out⟩

theorem equilFactors_walk (Am : Option Addr) (cm : Nat) (lm : List Nat) (mo mr mk ml : Int) (w : World) (hAm : Row w Am (f64s lm)) (hWm : Wds lm) (hnc : lm.length ≤ cm) (hmo : I64 mo) (hmr : I64 mr) (hmk : I64 mk) (hml : I64 ml) :
    Calls Try.prog 3 #[mat Am lm.length cm mo mr mk ml] w fun e w' => e = .returned (.bool true) ∧ Below w.heap.size w w' := by
  cases hG : greatB lm.length mr mk
  · have hn : lm.length ≤ 1000 ∧ mr ≤ 20 ∧ mk ≤ 20 := by have h := hG; unfold greatB at h; simp at h; omega
    cases h : matB lm.length mo mr mk ml
    · exact equilFactors_bad Am _ cm mo mr mk ml w hn.1 hmo hmr hmk hml hG h
    · obtain ⟨o, R, C, L, rfl, rfl, rfl, rfl, hL1, hRL, hmr2⟩ := mat_nat h
      cases hf : finsB lm o R C L
      · exact equilFactors_nan Am _ cm lm o R C L w hAm hWm rfl hnc hn.1 hmo hml (by omega) (by omega) hL1 hRL hmr2 hf
      · by_cases hk : fAt (tX lm o L) R C = 0
        · exact equilFactors_ok Am _ cm lm o R C L w hAm hWm rfl hnc hn.1 hmo hml (by omega) (by omega) hL1 hRL hmr2 hf hk
        · exact equilFactors_zero Am _ cm lm o R C L w hAm hWm rfl hnc hn.1 hmo hml (by omega) (by omega) hL1 hRL hmr2 hf _ rfl hk
  · exact equilFactors_great Am _ cm mo mr mk ml w hG
end Go.Proofs.Ytelpdbkkefpjhaa
