/-
PackRaw, with an error. Conditions: the lists have at most 1000 numbers.
-/
import Derived.Test.YtbjopdnfjjcpoaaZPlN
set_option linter.unusedVariables false
set_option linter.unusedSimpArgs false
set_option linter.unnecessarySimpa false
namespace Go.Proofs.Ytbjopdnfjjcpoaa
open Go.RowKit
attribute [local go_sem ↓] Go.wp_at_zero Go.wp_at_succ

set_option maxRecDepth 100000 in
set_option maxHeartbeats 8000000 in
theorem packRaw_err (r k : Int) (A : Option Addr) (n c : Nat) (l : List Nat) (i j : Int) (Am : Option Addr) (nm cm : Nat) (lm : List Nat) (mo mr mk ml : Int) (w : World) (hA : Row w A (f64s l)) (hW : Wds l) (hl : l.length = n) (hn : n ≤ 1000) (hk : I64 k) (hj : I64 j) (hAm : Row w Am (f64s lm)) (hWm : Wds lm) (hlm : lm.length = nm) (hnm : nm ≤ 1000) (hmo : I64 mo) (hmr : I64 mr) (hmk : I64 mk) (hml : I64 ml) (hG : greatB nm mr mk = false) (hE0 : unE (matB nm mo mr mk ml) (whB r k n) r k mr mk ≠ 0) : Calls Try.prog 4 #[.int .i64 r, .int .i64 k, .slice A n c, .int .i64 i, .int .i64 j, mat Am nm cm mo mr mk ml] w fun e w' => e = .returned (.bool true) ∧ Below w.heap.size w w' := by
  have HGr := Lib.hid (fun W => great_any Am nm cm mo mr mk ml W)
  rw [hG] at HGr
  have HA := Lib.hid hA
  have HCp := Lib.hid (fun W (hb : Below w.heap.size w W) => show Calls Try.prog 15 #[.slice A n c] W fun e w' => ∃ g c', e = .returned (.slice (some ⟨g, 0, none⟩) n c') ∧ Own w' g l ∧ Below W.heap.size W w' from by
    have h := rcopy_any A c l W (hA.below hb) (by omega)
    rw [hl] at h
    refine h.mono ?_
    rintro e w' ⟨g, c', h1, h2, _, _, _, h3⟩
    exact ⟨g, c', h1, h2, h3⟩)
  obtain ⟨tb, htb⟩ : ∃ tb, tpB r k n i j = tb := ⟨_, rfl⟩
  obtain ⟨x, hx⟩ : ∃ x, pX l r k n i j = x := ⟨_, rfl⟩
  have HX0 := Lib.hid (show tb = false → x = 0 from fun h => by rw [← hx, pX, htb, h]; rfl)
  have HX1 := Lib.hid (show tb = true → x = l.getD (i * k + j).toNat 0 from fun h => by rw [← hx, pX, htb, h]; rfl)
  have HTb := Lib.hid htb
  have HAt := Lib.hid (fun gD cD W (h : Row W (some ⟨gD, 0, none⟩) (f64s l)) => show Calls Try.prog 16 #[pnl r k (some ⟨gD, 0, none⟩) n cD, .int .i64 i, .int .i64 j] W fun e w' => e = .returned (.float .f64 x) ∧ Below W.heap.size W w' from by
    cases hc : tpB r k n i j
    · have h0 : x = 0 := HX0.out (by rw [← htb]; exact hc)
      rw [h0]
      exact pat_no r k i j _ n cD W (by omega) hk hj hc
    · have h0 : x = l.getD (i * k + j).toNat 0 := HX1.out (by rw [← htb]; exact hc)
      rw [h0]
      exact pat_yes r k i j _ n cD l W h hl (by omega) hk hj hc)
  have HW := Lib.hid hW
  have Hln := Lib.hid (And.intro hl hn)
  have HI := Lib.hid (And.intro hk hj)
  have hn1 : ¬ (1000 : Int) < (n : Int) := by omega
  obtain ⟨gb, hgb⟩ : ∃ gb, matB nm mo mr mk ml = gb := ⟨_, rfl⟩
  obtain ⟨wb, hwb⟩ : ∃ wb, whB r k n = wb := ⟨_, rfl⟩
  obtain ⟨E, hE⟩ : ∃ E, unE gb wb r k mr mk = E := ⟨_, rfl⟩
  rw [hgb, hwb, hE] at hE0
  have HWb := Lib.hid hwb
  have HE := Lib.hid hE
  have HE0 := Lib.hid hE0
  have hE1 : (E == 0) = false := by simp; exact hE0
  have HGm := Lib.hid (fun W => rgood_any Am nm cm mo mr mk ml W (by omega) hmo hmr hmk hml)
  rw [hgb] at HGm
  have HUn := Lib.hid (fun gD cD gm c9 W (h1 : Row W (some ⟨gD, 0, none⟩) (f64s l)) (h2 : Row W (some ⟨gm, 0, none⟩) (f64s lm)) => show Calls Try.prog 14 #[pnl r k (some ⟨gD, 0, none⟩) n cD, mat (some ⟨gm, 0, none⟩) nm c9 mo mr mk ml] W fun e w' => e = .returned (.int .i64 E) ∧ Below W.heap.size W w' from by
    by_cases hg : gb = true ∧ wb = true
    · have h3 : r < mr ∨ k < mk := by
        by_cases h : r < mr ∨ k < mk
        · exact h
        · exact absurd (show E = 0 by rw [← hE, unE, if_pos hg, if_neg h]) hE0
      rw [show E = 3 by rw [← hE, unE, if_pos hg, if_pos h3]]
      exact punpack_size r k _ n cD _ nm c9 mo mr mk ml W (by omega) hk (by omega) hmo hmr hmk hml (by rw [hgb]; exact hg.1) (by rw [hwb]; exact hg.2) h3
    · rw [show E = 1 by rw [← hE, unE, if_neg hg]]
      refine punpack_bad r k _ n cD _ nm c9 mo mr mk ml W (by omega) hk (by omega) hmo hmr hmk hml ?_
      rw [hgb, hwb]
      cases gb
      · exact .inl rfl
      · cases wb
        · exact .inr rfl
        · exact absurd ⟨rfl, rfl⟩ hg)
  have HAp := Lib.hid (fun W (hb : Below w.heap.size w W) => by
    have h := rapart_any Am cm lm mo mr mk ml W (hAm.below hb) (by omega)
    rw [hlm] at h
    exact h)
  have HAl := Lib.hid (fun gm c9 W (h1 : Row W (some ⟨gm, 0, none⟩) (f64s lm)) (hb : Below w.heap.size w W) => by
    have h := rall_any (some ⟨gm, 0, none⟩) Am c9 cm lm lm W hWm hWm h1 (hAm.below hb) (by omega) (Alike.refl _)
    rw [hlm] at h
    exact h)
  clear hA hW hl hn hk hj hG htb hx hAm hWm hlm hnm hmo hmr hmk hml hgb hwb hE hE0
  unfold mat pnl at *
  go_enter Try.func4, Try.ntmps4
  have Hm0 := Lib.hid (Blk.new w 24 #[.slice Am nm cm, .int .i64 mo, .int .i64 mr, .int .i64 mk, .int .i64 ml])
  have HB0 := Lib.hid ((Below.refl w.heap.size w).alloc (Nat.le_refl _) (.cells #[.slice Am nm cm, .int .i64 mo, .int .i64 mr, .int .i64 mk, .int .i64 ml] 24))
  obtain ⟨m0, m1, m2, m3, m4⟩ := cells5 Hm0.out
  go_wp2_with fail
  refine (awake12_any _).mono ?_
  rintro e w1 ⟨rfl, hb⟩
  have Hm1 := Lib.hid (Hm0.out.nxt hb)
  have HB1 := Lib.hid (below_nx HB0.out hb)
  clear hb
  clear m0 m1 m2 m3 m4
  obtain ⟨m0, m1, m2, m3, m4⟩ := cells5 Hm1.out
  go_wp2_with fail
  refine (HGr.out _).mono ?_
  rintro e w2 ⟨rfl, hb⟩
  have Hm2 := Lib.hid (Hm1.out.nxt hb)
  have HB2 := Lib.hid (below_nx HB1.out hb)
  clear hb
  clear m0 m1 m2 m3 m4
  obtain ⟨m0, m1, m2, m3, m4⟩ := cells5 Hm2.out
  go_wp2_with fail
  refine (HCp.out _ HB2.out).mono ?_
  rintro e w3 ⟨gD, cD, rfl, hoD, hb⟩
  have HoD := Lib.hid hoD
  clear hoD
  have Hm3 := Lib.hid (Hm2.out.nxt hb)
  have HB3 := Lib.hid (below_nx HB2.out hb)
  clear hb
  clear m0 m1 m2 m3 m4
  obtain ⟨m0, m1, m2, m3, m4⟩ := cells5 Hm3.out
  have Hd3 := HoD
  have hb9 : Below w3.heap.size w3 (w3.alloc (.cells #[.int .i64 r, .int .i64 k, .slice (some ⟨gD, 0, none⟩) n cD] 28)) := below_one
  have Hm4 := Lib.hid (Hm3.out.nxt hb9)
  have Hd4 := Lib.hid (Hd3.out.nxt hb9)
  have HB4 := Lib.hid (below_nx HB3.out hb9)
  have Hp4 := Lib.hid (Blk.new w3 28 #[.int .i64 r, .int .i64 k, .slice (some ⟨gD, 0, none⟩) n cD])
  clear hb9
  clear m0 m1 m2 m3 m4
  obtain ⟨m0, m1, m2, m3, m4⟩ := cells5 Hm4.out
  obtain ⟨p0, p1, p2⟩ := cells3v Hp4.out
  go_wp2_with fail
  refine (HAt.out gD cD _ Hd4.out.row).mono ?_
  rintro e w4 ⟨rfl, hb⟩
  have Hm5 := Lib.hid (Hm4.out.nxt hb)
  have Hp5 := Lib.hid (Hp4.out.nxt hb)
  have Hd5 := Lib.hid (Hd4.out.nxt hb)
  have HB5 := Lib.hid (below_nx HB4.out hb)
  clear hb
  clear m0 m1 m2 m3 m4 p0 p1 p2
  obtain ⟨m0, m1, m2, m3, m4⟩ := cells5 Hm5.out
  obtain ⟨p0, p1, p2⟩ := cells3v Hp5.out
  have HA4 := Lib.hid (HA.out.below HB5.out)
  go_upto_block 99 with (with_reducible refine cut_two7 [15, 42, 43, 44, 45, 46, 47, 48, 49, 50, 51, 52, 53, 54, 55, 56, 57, 58, 59, 60, 61, 62, 63, 64, 65, 66, 67, 68, 69, 70, 71, 72, 73] (fun s wx => s 15 = .bool tb ∧ wx = w4) ?first ?rest)
  case first =>
    refine stop_in ?_
    intro K hK
    by_cases h1 : 0 ≤ i
    · by_cases h2 : 0 ≤ j
      · by_cases h3 : i < r
        · by_cases h4 : j < k
          · by_cases h5 : j < (n : Int)
            · obtain ⟨Z, z1, z2, z3, ⟨z4, z5⟩, ⟨z6, z7⟩, z8, z9⟩ := q_facts (n := n) (j := j) (k := k) (by have := Hln.out; omega) (by omega) h2 h5
              have hpr : prB n i j k = decide (i ≤ Z) := by unfold prB; rw [z1, show decide (j < (n : Int)) = true from decide_eq_true h5, Bool.true_and]
              by_cases h6 : i ≤ Z
              · have htf : tb = true := by rw [← HTb.out]; exact tpB_yes h1 h2 h3 h4 (by rw [hpr]; exact decide_eq_true h6)
                have d6 : decide (i ≤ Z) = true := decide_eq_true h6
                clear hpr z1
                go_wp2_with fail
                exact metR_mk (by kernel_rfl) ⟨by first | rfl | simp [d6, htf] | simp_all, rfl⟩
              · have hno : tpB r k n i j = false := tpB_no (fun h => by rw [hpr] at h; exact h6 (of_decide_eq_true h.2.2.2.2))
                have htf : tb = false := by rw [← HTb.out]; exact hno
                have d6 : decide (i ≤ Z) = false := decide_eq_false h6
                clear hno hpr z1
                go_wp2_with fail
                exact metR_mk (by kernel_rfl) ⟨rfl, rfl⟩
            · have hpr : prB n i j k = false := by unfold prB; rw [show decide (j < (n : Int)) = false from decide_eq_false h5, Bool.false_and]
              have hno : tpB r k n i j = false := tpB_no (fun h => by rw [hpr] at h; exact absurd h.2.2.2.2 Bool.false_ne_true)
              have htf : tb = false := by rw [← HTb.out]; exact hno
              clear hno
              go_wp2_with fail
              exact metR_mk (by kernel_rfl) ⟨rfl, rfl⟩
          ·
            have hno : tpB r k n i j = false := tpB_no (fun h => h4 h.2.2.2.1)
            have htf : tb = false := by rw [← HTb.out]; exact hno
            clear hno
            go_wp2_with fail
            exact metR_mk (by kernel_rfl) ⟨rfl, rfl⟩
        ·
          have hno : tpB r k n i j = false := tpB_no (fun h => h3 h.2.2.1)
          have htf : tb = false := by rw [← HTb.out]; exact hno
          clear hno
          go_wp2_with fail
          exact metR_mk (by kernel_rfl) ⟨rfl, rfl⟩
      ·
        have hno : tpB r k n i j = false := tpB_no (fun h => h2 h.2.1)
        have htf : tb = false := by rw [← HTb.out]; exact hno
        clear hno
        go_wp2_with fail
        exact metR_mk (by kernel_rfl) ⟨rfl, rfl⟩
    ·
      have hno : tpB r k n i j = false := tpB_no (fun h => h1 h.1)
      have htf : tb = false := by rw [← HTb.out]; exact hno
      clear hno
      go_wp2_with fail
      exact metR_mk (by kernel_rfl) ⟨rfl, rfl⟩
  case rest =>
  refine stop_in ?_
  intro s w' hr
  obtain ⟨hs, hw⟩ := hr
  have hw2 := hw.symm
  subst hw2
  simp [setAll, hs]
  clear hs
  go_upto_region 10 with fail
  go_cut [95] (fun c9 wx => c9 = .bool false ∧ wx = w4)
  case first =>
    cases tb
    · have hq0 : (FloatKind.f64.format.order x 0 == some .eq) = true := by rw [HX0.out rfl]; exact exE_r
      go_wp2_with fail
      go_meet
      exact ⟨congrArg Value.bool (by rw [bne, hq0]; rfl), rfl⟩
    · have hx := HX1.out rfl
      have htp := HTb.out
      unfold tpB at htp
      simp only [Bool.and_eq_true, decide_eq_true_eq] at htp
      obtain ⟨⟨⟨⟨q1, q2⟩, q3⟩, q4⟩, q5⟩ := htp
      have hk := HI.out.1
      have hln := Hln.out
      have hm : 0 ≤ i * k := Int.mul_nonneg q1 (by omega)
      obtain ⟨p, hp⟩ : ∃ p : Nat, i * k + j = (p : Int) := ⟨(i * k + j).toNat, by omega⟩
      have hpn : p < l.length := by omega
      obtain ⟨b, o9, hAe, hblt, hcell0⟩ := HA4.out.at_ (f64s_get l p hpn)
      have e0 : (i * k + j).toNat = p := by omega
      have e1 : IntKind.i64.wrap (i * k) = i * k := wrapi (by omega) (by omega)
      have e2 : IntKind.i64.wrap (i * k + j) = (p : Int) := by rw [hp]; exact wrapi (by omega) (by omega)
      have hpn2 : (p : Int) < (n : Int) := by omega
      have e3 : l.getD p 0 = l[p] := by rw [List.getD_eq_getElem?_getD, List.getElem?_eq_getElem hpn]; rfl
      rw [e0, e3] at hx
      rw [← hx] at hcell0
      have hxw : x < 18446744073709551616 := by rw [hx]; exact HW.out.at_ p hpn
      subst hAe
      clear hx e0 e3 hpn hm hk hln q1 q2 q3 q4 q5 hblt hp
      go_wp2_with fail
      refine (rsame_v x x _ hxw hxw).mono ?_
      rw [sameB_refl]
      rintro e ws ⟨rfl, rfl⟩
      go_wp2_with fail
      go_meet
      exact ⟨rfl, rfl⟩
  case rest =>
  obtain ⟨rfl, hw9⟩ := hcut
  have hw8 := hw9.symm
  subst hw8
  go_wp2_with fail
  refine (HAp.out _ HB5.out).mono ?_
  rintro e w5 ⟨gm, cm9, rfl, hom, hgm, _, _, hb⟩
  have HgW := Lib.hid (show w.heap.size ≤ gm from Nat.le_trans HB5.out.size hgm)
  have Hgm := Lib.hid (show gD ≠ gm from by have := Hd5.out.lt; omega)
  have Hbx := Lib.hid (show w.heap.size ≠ gm ∧ w3.heap.size ≠ gm from by have h1 := Hm5.out.lt; have h2 := Hp5.out.lt; omega)
  have Hom := Lib.hid hom
  clear hom hgm
  have Hm6 := Lib.hid (Hm5.out.nxt hb)
  have Hp6 := Lib.hid (Hp5.out.nxt hb)
  have Hd6 := Lib.hid (Hd5.out.nxt hb)
  have HB6 := Lib.hid (below_nx HB5.out hb)
  clear hb
  clear m0 m1 m2 m3 m4 p0 p1 p2
  obtain ⟨m0, m1, m2, m3, m4⟩ := cells5 Hm6.out
  obtain ⟨p0, p1, p2⟩ := cells3v Hp6.out
  have Hn6 := Hom
  have hb9 : Below w5.heap.size w5 (w5.alloc (.cells #[.slice (some ⟨gm, 0, none⟩) nm cm9, .int .i64 mo, .int .i64 mr, .int .i64 mk, .int .i64 ml] 24)) := below_one
  have Hm7 := Lib.hid (Hm6.out.nxt hb9)
  have Hp7 := Lib.hid (Hp6.out.nxt hb9)
  have Hd7 := Lib.hid (Hd6.out.nxt hb9)
  have Hn7 := Lib.hid (Hn6.out.nxt hb9)
  have HB7 := Lib.hid (below_nx HB6.out hb9)
  have Hq7 := Lib.hid (Blk.new w5 24 #[.slice (some ⟨gm, 0, none⟩) nm cm9, .int .i64 mo, .int .i64 mr, .int .i64 mk, .int .i64 ml])
  clear hb9
  clear m0 m1 m2 m3 m4 p0 p1 p2
  obtain ⟨m0, m1, m2, m3, m4⟩ := cells5 Hm7.out
  obtain ⟨p0, p1, p2⟩ := cells3v Hp7.out
  obtain ⟨q0, q1, q2, q3, q4⟩ := cells5 Hq7.out
  have Hq8 := Lib.hid (show w5.heap.size ≠ gm from by have := Hom.out.lt; omega)
  go_wp2_with fail
  refine (HUn.out gD cD gm cm9 _ Hd7.out.row Hn7.out.row).mono ?_
  rintro e w6 ⟨rfl, hb⟩
  have Hm8 := Lib.hid (Hm7.out.nxt hb)
  have Hp8 := Lib.hid (Hp7.out.nxt hb)
  have Hq8 := Lib.hid (Hq7.out.nxt hb)
  have Hd8 := Lib.hid (Hd7.out.nxt hb)
  have Hn8 := Lib.hid (Hn7.out.nxt hb)
  have HB8 := Lib.hid (below_nx HB7.out hb)
  clear hb
  clear m0 m1 m2 m3 m4 p0 p1 p2 q0 q1 q2 q3 q4
  obtain ⟨m0, m1, m2, m3, m4⟩ := cells5 Hm8.out
  obtain ⟨p0, p1, p2⟩ := cells3v Hp8.out
  obtain ⟨q0, q1, q2, q3, q4⟩ := cells5 Hq8.out
  go_upto_block 99 with (with_reducible refine cut_two14 [18, 101, 102, 103, 104, 105, 106, 107, 108, 109, 110, 111, 112, 113, 114, 115, 116, 117, 118, 119, 120, 121, 122, 123, 124, 125, 126, 127, 128, 129, 130, 131, 132] (fun s wx => s 18 = .bool wb ∧ wx = w6) ?first ?rest)
  case first =>
    refine stop_in ?_
    intro K hK
    by_cases h1 : 0 ≤ r
    · by_cases h2 : 0 ≤ k
      · obtain ⟨k9, hk9⟩ : ∃ k9 : Nat, k = k9 := ⟨k.toNat, by omega⟩
        subst hk9
        by_cases h3 : r = 0
        · subst h3
          by_cases h4 : n = 0
          · have hwb : wb = true := by rw [← HWb.out]; unfold whB; rw [h4]; simp
            have h5 : ((n : Int) == 0) = true := by rw [h4]; rfl
            clear h4
            go_wp2_with fail
            exact metR_mk (by kernel_rfl) ⟨by first | rfl | simp [hwb] | simp_all, rfl⟩
          · have hwb : wb = false := by rw [← HWb.out]; unfold whB; simp; omega
            have h5 : ((n : Int) == 0) = false := by simp; omega
            go_wp2_with fail
            exact metR_mk (by kernel_rfl) ⟨by first | rfl | simp [hwb] | simp_all, rfl⟩
        · have h3b : (r == 0) = false := by simp; omega
          by_cases h4 : k9 = 0
          · subst h4
            by_cases h5 : n = 0
            · have hwb : wb = true := by rw [← HWb.out]; unfold whB; rw [h5]; simp; omega
              have h6 : ((n : Int) == 0) = true := by rw [h5]; rfl
              clear h5
              go_wp2_with fail
              exact metR_mk (by kernel_rfl) ⟨by first | rfl | simp [hwb] | simp_all, rfl⟩
            · have hwb : wb = false := by rw [← HWb.out]; unfold whB; simp; omega
              have h6 : ((n : Int) == 0) = false := by simp; omega
              go_wp2_with fail
              exact metR_mk (by kernel_rfl) ⟨by first | rfl | simp [hwb] | simp_all, rfl⟩
          · obtain ⟨q, m9, hq, hm9, f1, f2, ⟨f3, f4, f5, f6⟩, f7, f8⟩ := wh_facts (n := n) (k := k9) (by omega) (by have := Hln.out; omega)
            have hwd : wb = (decide (q = 0) && ((m9 : Int) == r)) := by rw [← HWb.out, whB_div h1 (by omega), ← hq, ← hm9]
            by_cases h5 : q = 0
            · subst h5
              cases hb9 : ((m9 : Int) == r)
              · have hwb : wb = false := by rw [hwd, hb9]; rfl
                clear hq hm9 hwd
                go_wp2_with fail
                exact metR_mk (by kernel_rfl) ⟨by first | rfl | simp [hwb] | simp_all, rfl⟩
              · have hwb : wb = true := by rw [hwd, hb9]; rfl
                clear hq hm9 hwd
                go_wp2_with fail
                exact metR_mk (by kernel_rfl) ⟨by first | rfl | simp [hwb] | simp_all, rfl⟩
            · have hwb : wb = false := by rw [hwd, show decide (q = 0) = false from decide_eq_false h5, Bool.false_and]
              have h6 : ((q : Int) == 0) = false := by simp; omega
              clear hq hm9 hwd
              go_wp2_with fail
              exact metR_mk (by kernel_rfl) ⟨by first | rfl | simp [hwb] | simp_all, rfl⟩
      · have hwb : wb = false := by rw [← HWb.out]; unfold whB; rw [show decide (0 ≤ k) = false from decide_eq_false h2, Bool.and_false]; rfl
        go_wp2_with fail
        exact metR_mk (by kernel_rfl) ⟨by first | rfl | simp [hwb] | simp_all, rfl⟩
    · have hwb : wb = false := by rw [← HWb.out]; unfold whB; rw [show decide (0 ≤ r) = false from decide_eq_false h1]; rfl
      go_wp2_with fail
      exact metR_mk (by kernel_rfl) ⟨by first | rfl | simp [hwb] | simp_all, rfl⟩
  case rest =>
  refine stop_in ?_
  intro s w' hr
  obtain ⟨hs, hw⟩ := hr
  have hw2 := hw.symm
  subst hw2
  simp [setAll, hs]
  clear hs
  go_upto_block 99 with (with_reducible refine cut_two19 [19, 133, 134, 135, 136, 137, 138, 139, 140, 141, 142, 143, 144, 145, 146, 147, 148, 149] (fun s wx => s 19 = .int .i64 E ∧ Below w6.heap.size w6 wx) ?first ?rest)
  case first =>
    refine stop_in ?_
    intro K hK
    cases gb
    · have hE := Lib.hid (show E = 1 by rw [← HE.out]; rfl)
      go_wp2_with fail
      refine (HGm.out _).mono ?_
      rintro e w7 ⟨rfl, hb⟩
      have Hm9 := Lib.hid (Hm8.out.nxt hb)
      have Hb9 := Lib.hid hb
      clear hb
      obtain ⟨y0, y1, y2, y3, y4⟩ := cells5 Hm9.out
      go_wp2_with fail
      exact metR_mk (by kernel_rfl) ⟨by first | rfl | (rw [hE.out]; rfl), Hb9.out⟩
    · cases wb
      · have hE := Lib.hid (show E = 1 by rw [← HE.out]; rfl)
        go_wp2_with fail
        refine (HGm.out _).mono ?_
        rintro e w7 ⟨rfl, hb⟩
        have Hm9 := Lib.hid (Hm8.out.nxt hb)
        have Hb9 := Lib.hid hb
        clear hb
        obtain ⟨y0, y1, y2, y3, y4⟩ := cells5 Hm9.out
        go_wp2_with fail
        exact metR_mk (by kernel_rfl) ⟨by first | rfl | (rw [hE.out]; rfl), Hb9.out⟩
      · by_cases h1 : r < mr
        · have hE := Lib.hid (show E = 3 by rw [← HE.out, unE, if_pos ⟨rfl, rfl⟩, if_pos (.inl h1)])
          go_wp2_with fail
          refine (HGm.out _).mono ?_
          rintro e w7 ⟨rfl, hb⟩
          have Hm9 := Lib.hid (Hm8.out.nxt hb)
          have Hb9 := Lib.hid hb
          clear hb
          obtain ⟨y0, y1, y2, y3, y4⟩ := cells5 Hm9.out
          go_wp2_with fail
          exact metR_mk (by kernel_rfl) ⟨by first | rfl | (rw [hE.out]; rfl), Hb9.out⟩
        · by_cases h2 : k < mk
          · have hE := Lib.hid (show E = 3 by rw [← HE.out, unE, if_pos ⟨rfl, rfl⟩, if_pos (.inr h2)])
            go_wp2_with fail
            refine (HGm.out _).mono ?_
            rintro e w7 ⟨rfl, hb⟩
            have Hm9 := Lib.hid (Hm8.out.nxt hb)
            have Hb9 := Lib.hid hb
            clear hb
            obtain ⟨y0, y1, y2, y3, y4⟩ := cells5 Hm9.out
            go_wp2_with fail
            exact metR_mk (by kernel_rfl) ⟨by first | rfl | (rw [hE.out]; rfl), Hb9.out⟩
          · exact absurd (show E = 0 by rw [← HE.out, unE, if_pos ⟨rfl, rfl⟩, if_neg (by omega)]) HE0.out
  case rest =>
  refine stop_in ?_
  intro s w7 hr
  obtain ⟨hs, hb⟩ := hr
  simp [setAll, hs]
  clear hs
  have Hm9 := Lib.hid (Hm8.out.nxt hb)
  have Hp9 := Lib.hid (Hp8.out.nxt hb)
  have Hq9 := Lib.hid (Hq8.out.nxt hb)
  have Hd9 := Lib.hid (Hd8.out.nxt hb)
  have Hn9 := Lib.hid (Hn8.out.nxt hb)
  have HB9 := Lib.hid (below_nx HB8.out hb)
  clear hb
  clear m0 m1 m2 m3 m4 p0 p1 p2 q0 q1 q2 q3 q4
  obtain ⟨m0, m1, m2, m3, m4⟩ := cells5 Hm9.out
  obtain ⟨p0, p1, p2⟩ := cells3v Hp9.out
  obtain ⟨q0, q1, q2, q3, q4⟩ := cells5 Hq9.out
  go_wp2_with fail
  refine (HAl.out gm cm9 _ Hn9.out.row HB9.out).mono ?_
  rintro e w8 ⟨rfl, hb⟩
  have Hm10 := Lib.hid (Hm9.out.nxt hb)
  have Hp10 := Lib.hid (Hp9.out.nxt hb)
  have Hq10 := Lib.hid (Hq9.out.nxt hb)
  have Hd10 := Lib.hid (Hd9.out.nxt hb)
  have Hn10 := Lib.hid (Hn9.out.nxt hb)
  have HB10 := Lib.hid (below_nx HB9.out hb)
  clear hb
  clear m0 m1 m2 m3 m4 p0 p1 p2 q0 q1 q2 q3 q4
  obtain ⟨m0, m1, m2, m3, m4⟩ := cells5 Hm10.out
  obtain ⟨p0, p1, p2⟩ := cells3v Hp10.out
  obtain ⟨q0, q1, q2, q3, q4⟩ := cells5 Hq10.out
  go_wp2_with fail
  refine (awake12_any _).mono ?_
  rintro e w9 ⟨rfl, hb⟩
  have Hm11 := Lib.hid (Hm10.out.nxt hb)
  have Hp11 := Lib.hid (Hp10.out.nxt hb)
  have Hq11 := Lib.hid (Hq10.out.nxt hb)
  have Hd11 := Lib.hid (Hd10.out.nxt hb)
  have Hn11 := Lib.hid (Hn10.out.nxt hb)
  have HB11 := Lib.hid (below_nx HB10.out hb)
  clear hb
  clear m0 m1 m2 m3 m4 p0 p1 p2 q0 q1 q2 q3 q4
  obtain ⟨m0, m1, m2, m3, m4⟩ := cells5 Hm11.out
  obtain ⟨p0, p1, p2⟩ := cells3v Hp11.out
  obtain ⟨q0, q1, q2, q3, q4⟩ := cells5 Hq11.out
  go_wp2_with fail
  go_ret
  exact ⟨rfl, HB11.out⟩
end Go.Proofs.Ytbjopdnfjjcpoaa
