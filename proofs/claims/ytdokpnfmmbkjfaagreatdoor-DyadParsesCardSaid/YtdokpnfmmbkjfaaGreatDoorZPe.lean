/-
The document's Parse. Conditions: the text isn't too long.
-/
import Derived.Test.YtdokpnfmmbkjfaaGreatDoorGr
set_option linter.unusedVariables false
set_option linter.unusedSimpArgs false
set_option linter.unnecessarySimpa false
namespace Go.Proofs.YtdokpnfmmbkjfaaGreatDoor
open Go.RowKit
attribute [local go_sem ↓] Go.wp_at_zero Go.wp_at_succ


set_option maxRecDepth 100000 in
set_option maxHeartbeats 4000000 in
theorem rparse2_any (s : ByteArray) (w : World) (hs : s.size ≤ 300) :
    Calls Tryz.prog 32 #[.string s] w fun e w' => ∃ v d r, e = .returned (.tuple #[v, .int .i64 r]) ∧ DV w' v d ∧ Sz 1100000 d ∧ PCase s.data.toList d r ∧ Below w.heap.size w w' := by
  have HR0 := Lib.hid ((Blk.new w 30 #[.bool false, .slice none 0 0, .int .i64 0]).alloc (.cells #[.bool false, .slice none 0 0, .int .i64 0] 30))
  have HQ0 := Lib.hid (Blk.new_ (w.alloc (.cells #[.bool false, .slice none 0 0, .int .i64 0] 30)) 30 #[.bool false, .slice none 0 0, .int .i64 0] (w.heap.size + 1) (by simp))
  have HB0 := Lib.hid (((Below.refl w.heap.size w).alloc (Nat.le_refl _) (.cells #[.bool false, .slice none 0 0, .int .i64 0] 30)).alloc (by simp) (.cells #[.bool false, .slice none 0 0, .int .i64 0] 30))
  have HS := Lib.hid hs
  cases h48 : (s.toList == [48]) with
  | true =>
    have e48 : s.data.toList = [48] := by rw [← Lib.toList_data]; exact eq_of_beq h48
    rw [e48]
    clear e48 hs
    have HB1 := Lib.hid (Blk.new w 30 #[.bool false, .slice none 0 0, .int .i64 0])
    obtain ⟨q0, q1, q2⟩ := cells3 HB1.out
    go_enter Tryz.func32, Tryz.ntmps32
    go_wp2_with fail
    exact bodyPost_ret (v := .tuple #[.agg #[.bool false, .slice none 0 0, .int .i64 0], .int .i64 0]) (by simp [results, Tryz.results32, go_sem, q0, q1, q2]) rfl
      ⟨_, 0, 0, rfl, dv_zero _ _, Sz.zero _, .inl ⟨rfl, rfl, rfl⟩, (Below.refl _ _).alloc (Nat.le_refl _) _⟩
  | false =>
    have H48 := Lib.hid (show s.data.toList ≠ [48] from fun e => by
      rw [Lib.toList_data, e] at h48
      exact absurd h48 (by decide))
    by_cases hz : 0 < s.size
    · have tz : decide (0 < s.size) = true := decide_eq_true hz
      by_cases h45 : s[0] = 45
      · obtain ⟨hT, hN⟩ := unsg_bytes s hz h45
        have t45 : (((s[0].toNat : Nat) : Int) == 45) = true := by rw [h45]; rfl
        have hz1 : 1 ≤ s.size := hz
        have hTs : (s.extract 1 s.size).size ≤ 300 := by simp; omega
        obtain ⟨T, hTe⟩ : ∃ T, s.extract 1 s.size = T := ⟨_, rfl⟩
        rw [hTe] at hT hTs
        have HT := Lib.hid hT
        have HSn0 := Lib.hid hN
        have HTs := Lib.hid hTs
        clear h45 hT hN hTs hs
        go_enter Tryz.func32, Tryz.ntmps32
        go_wp2_with fail
        go_loopw [7] (fun i wr => ∃ k : Nat, i = .int .i64 (k : Int) ∧ Hid (k ≤ T.size ∧ Hexs (T.data.toList.take k)) ∧ Hid (Bx wr (w.heap.size + 1) (dy (hexV (T.data.toList.take k) : Int) 0)) ∧ Hid (Blk wr w.heap.size 30 #[.bool false, .slice none 0 0, .int .i64 0] ∧ Below w.heap.size w wr)) (fun i _ => T.size - (intOf i).toNat)
        case atStart =>
          refine ⟨0, rfl, Lib.hid ⟨Nat.zero_le _, fun _ h => by simp at h⟩, Lib.hid ?_, Lib.hid ⟨HR0.out, HB0.out⟩⟩
          have := bx_zero HQ0.out
          simpa [hexV, dy_zero] using this
        case round =>
          obtain ⟨k, rfl, HK, HBx, HBl⟩ := hrel
          obtain ⟨ngq, Aq, nq, cq, Eq, Lq, hBq, hRq, hNq, hDq⟩ := HBx.out
          have HQr := Lib.hid hBq
          have HRr := Lib.hid HBl.out.1
          have HB := Lib.hid HBl.out.2
          have HDq := Lib.hid (show DV wr (.agg #[.bool ngq, .slice Aq nq cq, .int .i64 Eq]) (dy (hexV (T.data.toList.take k) : Int) 0) from ⟨ngq, Aq, nq, cq, Eq, Lq, rfl, hRq, hNq, hDq⟩)
          clear hBq hRq hNq hDq HBl HBx HR0 HQ0 HB0
          by_cases hlt : k < T.size
          · have tlt : decide (k < T.size) = true := decide_eq_true hlt
            by_cases h112 : T[k] = 112
            · have t112 : (((T[k].toNat : Nat) : Int) != 112) = false := by rw [h112]; rfl
              have tge : decide (T.size ≤ k) = false := by simp; omega
              have HM := Lib.hid (show (112 : UInt8) ∉ T.data.toList.take k from hexs_no112 HK.out.2)
              have HSp := Lib.hid (show unsg s.data.toList = T.data.toList.take k ++ 112 :: T.data.toList.drop (k + 1) from by
                have h1 := bytes_at T k hlt
                rw [h112] at h1
                obtain ⟨h2, h3⟩ := List.getElem?_eq_some_iff.1 h1
                rw [← HT.out, ← h3, ← List.drop_eq_getElem_cons h2, List.take_append_drop])
              obtain ⟨j, hj⟩ : ∃ j, k + 1 = j := ⟨_, rfl⟩
              rw [hj] at HSp
              have e1 : (k : Int) + 1 = (j : Int) := by omega
              have e2 : wrap64 (j : Int) = (j : Int) := by have := HTs.out; unfold wrap64; omega
              have e3 : IntKind.i64.wrap (j : Int) = (j : Int) := wi_in (by have := HTs.out; omega)
              have hj1 : j ≤ T.size := by omega
              obtain ⟨E0, hE0⟩ : ∃ E0, T.extract j T.size = E0 := ⟨_, rfl⟩
              have HEl := Lib.hid (show E0.data.toList = T.data.toList.drop j from by rw [← hE0, Lib.extract_to_end])
              have HEs := Lib.hid (show E0.size ≤ 300 from by rw [← hE0]; have := HTs.out; simp; omega)
              rw [← HEl.out] at HSp
              clear h112 hj
              by_cases hz0 : 0 < E0.size
              · have tz0 : decide (0 < E0.size) = true := decide_eq_true hz0
                have tz1 : 1 ≤ E0.size := hz0
                by_cases hm : E0[0] = 45
                · have tm : (((E0[0].toNat : Nat) : Int) == 45) = true := by rw [hm]; rfl
                  obtain ⟨F, hF⟩ : ∃ F, E0.extract 1 E0.size = F := ⟨_, rfl⟩
                  have hFl := unsg_bytes E0 hz0 hm
                  rw [hF] at hFl
                  have HF := Lib.hid hFl.1
                  have HFz := Lib.hid (show F.size ≤ 300 from by rw [← hF]; have := HEs.out; simp; omega)
                  have HSg := Lib.hid (show signE E0.data.toList = -1 from by unfold signE; rw [hFl.2]; rfl)
                  clear hm hFl
                  by_cases hF0 : F.size = 0
                  · have tf0 : ((F.size : Int) == 0) = true := by rw [hF0]; rfl
                    have HW := Lib.hid (show ∀ x, ¬ Canon s.data.toList x from fun x hx => by
                      have h := (canon_val H48.out HM.out HSp.out hx).2.2.2.1
                      rw [← HF.out] at h
                      exact h (by apply List.length_eq_zero_iff.1; simpa using hF0))
                    clear hF0
                    have fr0 := HRr.out.frozen 0
                    have fr1 := HRr.out.frozen 1
                    have fr2 := HRr.out.frozen 2
                    obtain ⟨r0, r1, r2⟩ := cells3 HRr.out
                    go_wp2_with fail
                    obtain ⟨q0, q1, q2⟩ := cells3 (Blk.store3 HRr.out (.bool false) (.slice none 0 0) (.int .i64 0))
                    exact bodyPost_ret (v := .tuple #[.agg #[.bool false, .slice none 0 0, .int .i64 0], .int .i64 5]) (by simp [results, Tryz.results32, go_sem, q0, q1, q2]) rfl
                      ⟨_, 0, 5, rfl, dv_zero _ _, Sz.zero _, .inr (.inr ⟨H48.out, HW.out, rfl, rfl⟩), below_three HB.out _ (Nat.le_refl _) _ _ _⟩
                  · have tf0 := nz_f hF0
                    by_cases hF7 : 7 < F.size
                    · have tf7 := sev_t hF7
                      have HW := Lib.hid (show ∀ x, ¬ Canon s.data.toList x from fun x hx => by
                        have h := (canon_val H48.out HM.out HSp.out hx).2.2.2.2
                        rw [← HF.out] at h
                        rw [bytes_len] at h
                        exact absurd h (Nat.not_le_of_lt hF7))
                      clear hF0 hF7
                      have fr0 := HRr.out.frozen 0
                      have fr1 := HRr.out.frozen 1
                      have fr2 := HRr.out.frozen 2
                      obtain ⟨r0, r1, r2⟩ := cells3 HRr.out
                      go_wp2_with fail
                      obtain ⟨q0, q1, q2⟩ := cells3 (Blk.store3 HRr.out (.bool false) (.slice none 0 0) (.int .i64 0))
                      exact bodyPost_ret (v := .tuple #[.agg #[.bool false, .slice none 0 0, .int .i64 0], .int .i64 5]) (by simp [results, Tryz.results32, go_sem, q0, q1, q2]) rfl
                        ⟨_, 0, 5, rfl, dv_zero _ _, Sz.zero _, .inr (.inr ⟨H48.out, HW.out, rfl, rfl⟩), below_three HB.out _ (Nat.le_refl _) _ _ _⟩
                    · have tf7 := sev_f hF7
                      have HF7 := Lib.hid hF7
                      clear hF0 hF7
                      go_wp2_with fail
                      go_loop [11, 12] (fun n q => ∃ i N : Nat, n = .int .i64 (N : Int) ∧ q = .int .i64 (i : Int) ∧ Hid (i ≤ F.size ∧ Decs (F.data.toList.take i) ∧ N = decV (F.data.toList.take i) ∧ N < 10 ^ i)) (fun _ q => F.size - (intOf q).toNat)
                      case atStart => exact ⟨0, 0, rfl, rfl, Lib.hid ⟨Nat.zero_le _, (fun c h => by simp at h), by simp [decV], by decide⟩⟩
                      case round =>
                        obtain ⟨i, N, rfl, rfl, HI⟩ := hrel
                        by_cases hif : i < F.size
                        · have tif : decide (i < F.size) = true := decide_eq_true hif
                          have HFs := Lib.hid (bytes_snoc F i hif)
                          have HFa := Lib.hid (bytes_at F i hif)
                          obtain ⟨c, hc⟩ : ∃ c, F[i].toNat = c := ⟨_, rfl⟩
                          have hN7 := ten7 HI.out.2.2.2 (Nat.le_trans (Nat.le_of_lt hif) (Nat.le_of_not_lt HF7.out))
                          rcases dec_ways F[i] c hc with ⟨d, hd, hd10, he, hcd, t1, t2⟩ | ⟨hd, t1⟩ | ⟨hd, t1, t2⟩
                          · obtain ⟨a, b, m, f1, f2, f3, f4, f5, f6, f7, f8, f9, f10, hm⟩ := step_facts hN7 hcd hd10
                            have HSt := Lib.hid (show Decs (F.data.toList.take (i + 1)) ∧ m = decV (F.data.toList.take (i + 1)) ∧ m < 10 ^ (i + 1) from by
                              rw [HFs.out]
                              exact dec_round HI.out.2.1 HI.out.2.2.1 HI.out.2.2.2 hd hd10 hm)
                            have HIf := Lib.hid hif
                            have Hi1 := Lib.hid (wrap_succ hif HFz.out)
                            clear hd hcd hm hN7 he hd10
                            go_wp2_with fail
                            go_round
                            case rel => exact ⟨i + 1, m, rfl, by rw [Hi1.out], Lib.hid ⟨HIf.out, HSt.out⟩⟩
                            case measure => rw [Hi1.out]; exact meas_succ HIf.out
                          all_goals
                            have HW := Lib.hid (show ∀ x, ¬ Canon s.data.toList x from fun x hx => by
                              have h := (canon_val H48.out HM.out HSp.out hx).2.2.1
                              rw [← HF.out] at h
                              exact decs_not (List.mem_of_getElem? HFa.out) hd h)
                            clear hd hN7
                            have fr0 := HRr.out.frozen 0
                            have fr1 := HRr.out.frozen 1
                            have fr2 := HRr.out.frozen 2
                            obtain ⟨r0, r1, r2⟩ := cells3 HRr.out
                            go_wp2_with fail
                            obtain ⟨q0, q1, q2⟩ := cells3 (Blk.store3 HRr.out (.bool false) (.slice none 0 0) (.int .i64 0))
                            exact bodyPost_ret (v := .tuple #[.agg #[.bool false, .slice none 0 0, .int .i64 0], .int .i64 5]) (by simp [results, Tryz.results32, go_sem, q0, q1, q2]) rfl
                              ⟨_, 0, 5, rfl, dv_zero _ _, Sz.zero _, .inr (.inr ⟨H48.out, HW.out, rfl, rfl⟩), below_three HB.out _ (Nat.le_refl _) _ _ _⟩
                        · have tif : decide (i < F.size) = false := decide_eq_false hif
                          have HNv := Lib.hid (show N = decV F.data.toList from by
                            have h := HI.out.2.2.1
                            rw [List.take_of_length_le (by rw [bytes_len]; exact Nat.le_of_not_lt hif)] at h
                            exact h)
                          by_cases hbig : 1048576 < N
                          · have tbig := big_t hbig
                            have HW := Lib.hid (show ∀ x, ¬ Canon s.data.toList x from fun x hx => by
                              have h := (canon_val H48.out HM.out HSp.out hx).2.1
                              rw [← HF.out, ← HNv.out] at h
                              exact absurd h (Nat.not_le_of_lt hbig))
                            clear hbig hif
                            have fr0 := HRr.out.frozen 0
                            have fr1 := HRr.out.frozen 1
                            have fr2 := HRr.out.frozen 2
                            obtain ⟨r0, r1, r2⟩ := cells3 HRr.out
                            go_wp2_with fail
                            obtain ⟨q0, q1, q2⟩ := cells3 (Blk.store3 HRr.out (.bool false) (.slice none 0 0) (.int .i64 0))
                            exact bodyPost_ret (v := .tuple #[.agg #[.bool false, .slice none 0 0, .int .i64 0], .int .i64 5]) (by simp [results, Tryz.results32, go_sem, q0, q1, q2]) rfl
                              ⟨_, 0, 5, rfl, dv_zero _ _, Sz.zero _, .inr (.inr ⟨H48.out, HW.out, rfl, rfl⟩), below_three HB.out _ (Nat.le_refl _) _ _ _⟩
                          · have tbig := big_f hbig
                            have HNb0 := Lib.hid (show N ≤ 1048576 from Nat.le_of_not_lt hbig)
                            clear hbig hif
                            have HD0 := Lib.hid (show dy (hexV (T.data.toList.take k) : Int) 0 = dy (hexV (T.data.toList.take k) : Int) 0 from rfl)
                            obtain ⟨D1, hD1⟩ : ∃ D1, -dy (hexV (T.data.toList.take k) : Int) 0 = D1 := ⟨_, rfl⟩
                            obtain ⟨Z, hZ⟩ : ∃ Z : Int, (-1) * (N : Int) = Z := ⟨_, rfl⟩
                            obtain ⟨D2, hD2⟩ : ∃ D2, D1 * dy 1 Z = D2 := ⟨_, rfl⟩
                            have hZb : Z.natAbs ≤ 1048576 := by rw [← hZ]; exact sgn_neg HNb0.out
                            have HNb := Lib.hid (show decV (unsg E0.data.toList) ≤ 1048576 from by rw [← HF.out, ← HNv.out]; exact HNb0.out)
                            have hS1 : Sz 1200 D1 := by
                              rw [← hD1]
                              have h := sz_hex (n := 300) HK.out.2 (Nat.le_trans (by rw [List.length_take]; exact Nat.min_le_left _ _) (Nat.le_trans HK.out.1 HTs.out))
                              exact h.neg
                            have hS2 : Sz 1100000 D2 := by rw [← hD2]; exact hS1.shift Z (shl_ok hZb)
                            have HSz := Lib.hid (And.intro hS1 hS2)
                            have HD2 := Lib.hid (show D2 = dy (sgd (hasSg s.data.toList) (hexV (T.data.toList.take k))) (signE E0.data.toList * (decV (unsg E0.data.toList) : Int)) from by
                              rw [← hD2, ← hD1, HSn0.out, HSg.out, ← HF.out, ← HNv.out, hZ, dy_neg, dy_one]
                              simp [sgd])
                            have HD1 := Lib.hid hD1
                            have HD2' := Lib.hid hD2
                            have HZb := Lib.hid hZb
                            have hzw := (wr50 (Nat.le_trans hZb (by decide))).2
                            have hzi := (wr50 (Nat.le_trans hZb (by decide))).1
                            clear hD1 hD2 hS1 hS2 hZb
                            obtain ⟨k0, k1, k2⟩ := cells3 HQr.out
                            go_wp2_with fail
                            refine (rminus_v HDq.out).mono ?_
                            rintro e w1 ⟨v9, rfl, ⟨ng1, A1, n1, c1, E1, L1, rfl, hR1, hN1, hD1⟩, hb⟩
                            have HV1 := Lib.hid (show DV w1 (.agg #[.bool ng1, .slice A1 n1 c1, .int .i64 E1]) D1 from ⟨ng1, A1, n1, c1, E1, L1, rfl, hR1, hN1, by rw [hD1]; exact HD1.out⟩)
                            have HQ1 := Lib.hid (HQr.out.below hb HQr.out.lt)
                            have HR1 := Lib.hid (HRr.out.below hb HRr.out.lt)
                            have HB1 := Lib.hid (below_nx HB.out hb)
                            have fr0 := HQ1.out.frozen 0
                            have fr1 := HQ1.out.frozen 1
                            have fr2 := HQ1.out.frozen 2
                            clear hR1 hN1 hD1 hb k0 k1 k2
                            obtain ⟨k0, k1, k2⟩ := cells3 HQ1.out
                            go_wp2_with fail
                            have HVa := Lib.hid (dv_three HV1.out HQ1.out (.bool ng1) (.slice A1 n1 c1) (.int .i64 E1))
                            have HQa := Lib.hid (Blk.store3 HQ1.out (.bool ng1) (.slice A1 n1 c1) (.int .i64 E1))
                            have HRa := Lib.hid (blk_other3 HR1.out (Nat.ne_of_lt (Nat.lt_succ_self _)) (.bool ng1) (.slice A1 n1 c1) (.int .i64 E1))
                            have HBa := Lib.hid (below_three HB1.out (w.heap.size + 1) (Nat.le_succ _) (.bool ng1) (.slice A1 n1 c1) (.int .i64 E1))
                            clear fr0 fr1 fr2 k0 k1 k2
                            refine (rshift_v Z (Nat.le_trans HZb.out (by decide)) HVa.out (HSz.out.1.fit (by decide))).mono ?_
                            rintro e w2 ⟨v9, rfl, ⟨ng2, A2, n2, c2, E2, L2, rfl, hR2, hN2, hD2⟩, hb⟩
                            have HV2 := Lib.hid (show DV w2 (.agg #[.bool ng2, .slice A2 n2 c2, .int .i64 E2]) D2 from ⟨ng2, A2, n2, c2, E2, L2, rfl, hR2, hN2, by rw [hD2]; exact HD2'.out⟩)
                            have HQ2 := Lib.hid (HQa.out.below hb HQa.out.lt)
                            have HR2 := Lib.hid (HRa.out.below hb HRa.out.lt)
                            have HB2 := Lib.hid (below_nx HBa.out hb)
                            have fr0 := HQ2.out.frozen 0
                            have fr1 := HQ2.out.frozen 1
                            have fr2 := HQ2.out.frozen 2
                            obtain ⟨k0, k1, k2⟩ := cells3 HQ2.out
                            clear hR2 hN2 hD2 hb
                            go_wp2_with fail
                            have HVb := Lib.hid (dv_three HV2.out HQ2.out (.bool ng2) (.slice A2 n2 c2) (.int .i64 E2))
                            have HQb := Lib.hid (Blk.store3 HQ2.out (.bool ng2) (.slice A2 n2 c2) (.int .i64 E2))
                            have HRb := Lib.hid (blk_other3 HR2.out (Nat.ne_of_lt (Nat.lt_succ_self _)) (.bool ng2) (.slice A2 n2 c2) (.int .i64 E2))
                            have HBb := Lib.hid (below_three HB2.out (w.heap.size + 1) (Nat.le_succ _) (.bool ng2) (.slice A2 n2 c2) (.int .i64 E2))
                            clear fr0 fr1 fr2 k0 k1 k2
                            refine (rtext_v HVb.out HSz.out.2 (by decide)).mono ?_
                            rintro e w3 ⟨rfl, hb⟩
                            have HV3 := Lib.hid (HVb.out.below hb)
                            have HQ3 := Lib.hid (HQb.out.below hb HQb.out.lt)
                            have HR3 := Lib.hid (HRb.out.below hb HRb.out.lt)
                            have HB3 := Lib.hid (below_nx HBb.out hb)
                            clear hb
                            cases htx : (txt D2 == s.toList) with
                            | false =>
                              have HTx := Lib.hid htx
                              have HW := Lib.hid (show ∀ x, ¬ Canon s.data.toList x from fun x hx => by
                                have h := (canon_val H48.out HM.out HSp.out hx).1
                                have h2 := hx.1
                                rw [h, ← HD2.out, ← Lib.toList_data] at h2
                                rw [h2] at htx
                                simp at htx)
                              have HRr := HR3
                              have HB := HB3
                              have fr0 := HRr.out.frozen 0
                              have fr1 := HRr.out.frozen 1
                              have fr2 := HRr.out.frozen 2
                              obtain ⟨r0, r1, r2⟩ := cells3 HRr.out
                              go_wp2_with fail
                              obtain ⟨q0, q1, q2⟩ := cells3 (Blk.store3 HRr.out (.bool false) (.slice none 0 0) (.int .i64 0))
                              exact bodyPost_ret (v := .tuple #[.agg #[.bool false, .slice none 0 0, .int .i64 0], .int .i64 5]) (by simp [results, Tryz.results32, go_sem, q0, q1, q2]) rfl
                                ⟨_, 0, 5, rfl, dv_zero _ _, Sz.zero _, .inr (.inr ⟨H48.out, HW.out, rfl, rfl⟩), below_three HB.out _ (Nat.le_refl _) _ _ _⟩
                            | true =>
                              have HTx := Lib.hid htx
                              have HCn := Lib.hid (show Canon s.data.toList D2 from canon_back H48.out HM.out HSp.out (by rw [← Lib.toList_data]; exact (eq_of_beq htx).symm) HNb.out)
                              obtain ⟨k0, k1, k2⟩ := cells3 HQ3.out
                              have fr0 := HR3.out.frozen 0
                              have fr1 := HR3.out.frozen 1
                              have fr2 := HR3.out.frozen 2
                              obtain ⟨r0, r1, r2⟩ := cells3 HR3.out
                              go_wp2_with fail
                              obtain ⟨q0, q1, q2⟩ := cells3 (Blk.store3 HR3.out (.bool ng2) (.slice A2 n2 c2) (.int .i64 E2))
                              exact bodyPost_ret (v := .tuple #[.agg #[.bool ng2, .slice A2 n2 c2, .int .i64 E2], .int .i64 0]) (by simp [results, Tryz.results32, go_sem, q0, q1, q2]) rfl
                                ⟨_, D2, 0, rfl, dv_three HV3.out HR3.out _ _ _, HSz.out.2, .inr (.inl ⟨H48.out, HCn.out, rfl⟩), below_three HB3.out _ (Nat.le_refl _) _ _ _⟩

                · have tm : (((E0[0].toNat : Nat) : Int) == 45) = false := byte_ne hm
                  have hFl := unsg_plain E0 (fun _ => hm)
                  obtain ⟨F, hF⟩ : ∃ F, E0 = F := ⟨_, rfl⟩
                  have HF := Lib.hid (show F.data.toList = unsg E0.data.toList from by rw [hFl.1, hF])
                  have HSg := Lib.hid (show signE E0.data.toList = 1 from by unfold signE; rw [hFl.2]; rfl)
                  have HFz := Lib.hid (show F.size ≤ 300 from by rw [← hF]; exact HEs.out)
                  clear hm hFl
                  subst hF
                  by_cases hF0 : E0.size = 0
                  · have tf0 : ((E0.size : Int) == 0) = true := by rw [hF0]; rfl
                    have HW := Lib.hid (show ∀ x, ¬ Canon s.data.toList x from fun x hx => by
                      have h := (canon_val H48.out HM.out HSp.out hx).2.2.2.1
                      rw [← HF.out] at h
                      exact h (by apply List.length_eq_zero_iff.1; simpa using hF0))
                    clear hF0
                    have fr0 := HRr.out.frozen 0
                    have fr1 := HRr.out.frozen 1
                    have fr2 := HRr.out.frozen 2
                    obtain ⟨r0, r1, r2⟩ := cells3 HRr.out
                    go_wp2_with fail
                    obtain ⟨q0, q1, q2⟩ := cells3 (Blk.store3 HRr.out (.bool false) (.slice none 0 0) (.int .i64 0))
                    exact bodyPost_ret (v := .tuple #[.agg #[.bool false, .slice none 0 0, .int .i64 0], .int .i64 5]) (by simp [results, Tryz.results32, go_sem, q0, q1, q2]) rfl
                      ⟨_, 0, 5, rfl, dv_zero _ _, Sz.zero _, .inr (.inr ⟨H48.out, HW.out, rfl, rfl⟩), below_three HB.out _ (Nat.le_refl _) _ _ _⟩
                  · have tf0 := nz_f hF0
                    by_cases hF7 : 7 < E0.size
                    · have tf7 := sev_t hF7
                      have HW := Lib.hid (show ∀ x, ¬ Canon s.data.toList x from fun x hx => by
                        have h := (canon_val H48.out HM.out HSp.out hx).2.2.2.2
                        rw [← HF.out] at h
                        rw [bytes_len] at h
                        exact absurd h (Nat.not_le_of_lt hF7))
                      clear hF0 hF7
                      have fr0 := HRr.out.frozen 0
                      have fr1 := HRr.out.frozen 1
                      have fr2 := HRr.out.frozen 2
                      obtain ⟨r0, r1, r2⟩ := cells3 HRr.out
                      go_wp2_with fail
                      obtain ⟨q0, q1, q2⟩ := cells3 (Blk.store3 HRr.out (.bool false) (.slice none 0 0) (.int .i64 0))
                      exact bodyPost_ret (v := .tuple #[.agg #[.bool false, .slice none 0 0, .int .i64 0], .int .i64 5]) (by simp [results, Tryz.results32, go_sem, q0, q1, q2]) rfl
                        ⟨_, 0, 5, rfl, dv_zero _ _, Sz.zero _, .inr (.inr ⟨H48.out, HW.out, rfl, rfl⟩), below_three HB.out _ (Nat.le_refl _) _ _ _⟩
                    · have tf7 := sev_f hF7
                      have HF7 := Lib.hid hF7
                      clear hF0 hF7
                      go_wp2_with fail
                      go_loop [11, 12] (fun n q => ∃ i N : Nat, n = .int .i64 (N : Int) ∧ q = .int .i64 (i : Int) ∧ Hid (i ≤ E0.size ∧ Decs (E0.data.toList.take i) ∧ N = decV (E0.data.toList.take i) ∧ N < 10 ^ i)) (fun _ q => E0.size - (intOf q).toNat)
                      case atStart => exact ⟨0, 0, rfl, rfl, Lib.hid ⟨Nat.zero_le _, (fun c h => by simp at h), by simp [decV], by decide⟩⟩
                      case round =>
                        obtain ⟨i, N, rfl, rfl, HI⟩ := hrel
                        by_cases hif : i < E0.size
                        · have tif : decide (i < E0.size) = true := decide_eq_true hif
                          have HFs := Lib.hid (bytes_snoc E0 i hif)
                          have HFa := Lib.hid (bytes_at E0 i hif)
                          obtain ⟨c, hc⟩ : ∃ c, E0[i].toNat = c := ⟨_, rfl⟩
                          have hN7 := ten7 HI.out.2.2.2 (Nat.le_trans (Nat.le_of_lt hif) (Nat.le_of_not_lt HF7.out))
                          rcases dec_ways E0[i] c hc with ⟨d, hd, hd10, he, hcd, t1, t2⟩ | ⟨hd, t1⟩ | ⟨hd, t1, t2⟩
                          · obtain ⟨a, b, m, f1, f2, f3, f4, f5, f6, f7, f8, f9, f10, hm⟩ := step_facts hN7 hcd hd10
                            have HSt := Lib.hid (show Decs (E0.data.toList.take (i + 1)) ∧ m = decV (E0.data.toList.take (i + 1)) ∧ m < 10 ^ (i + 1) from by
                              rw [HFs.out]
                              exact dec_round HI.out.2.1 HI.out.2.2.1 HI.out.2.2.2 hd hd10 hm)
                            have HIf := Lib.hid hif
                            have Hi1 := Lib.hid (wrap_succ hif HFz.out)
                            clear hd hcd hm hN7 he hd10
                            go_wp2_with fail
                            go_round
                            case rel => exact ⟨i + 1, m, rfl, by rw [Hi1.out], Lib.hid ⟨HIf.out, HSt.out⟩⟩
                            case measure => rw [Hi1.out]; exact meas_succ HIf.out
                          all_goals
                            have HW := Lib.hid (show ∀ x, ¬ Canon s.data.toList x from fun x hx => by
                              have h := (canon_val H48.out HM.out HSp.out hx).2.2.1
                              rw [← HF.out] at h
                              exact decs_not (List.mem_of_getElem? HFa.out) hd h)
                            clear hd hN7
                            have fr0 := HRr.out.frozen 0
                            have fr1 := HRr.out.frozen 1
                            have fr2 := HRr.out.frozen 2
                            obtain ⟨r0, r1, r2⟩ := cells3 HRr.out
                            go_wp2_with fail
                            obtain ⟨q0, q1, q2⟩ := cells3 (Blk.store3 HRr.out (.bool false) (.slice none 0 0) (.int .i64 0))
                            exact bodyPost_ret (v := .tuple #[.agg #[.bool false, .slice none 0 0, .int .i64 0], .int .i64 5]) (by simp [results, Tryz.results32, go_sem, q0, q1, q2]) rfl
                              ⟨_, 0, 5, rfl, dv_zero _ _, Sz.zero _, .inr (.inr ⟨H48.out, HW.out, rfl, rfl⟩), below_three HB.out _ (Nat.le_refl _) _ _ _⟩
                        · have tif : decide (i < E0.size) = false := decide_eq_false hif
                          have HNv := Lib.hid (show N = decV E0.data.toList from by
                            have h := HI.out.2.2.1
                            rw [List.take_of_length_le (by rw [bytes_len]; exact Nat.le_of_not_lt hif)] at h
                            exact h)
                          by_cases hbig : 1048576 < N
                          · have tbig := big_t hbig
                            have HW := Lib.hid (show ∀ x, ¬ Canon s.data.toList x from fun x hx => by
                              have h := (canon_val H48.out HM.out HSp.out hx).2.1
                              rw [← HF.out, ← HNv.out] at h
                              exact absurd h (Nat.not_le_of_lt hbig))
                            clear hbig hif
                            have fr0 := HRr.out.frozen 0
                            have fr1 := HRr.out.frozen 1
                            have fr2 := HRr.out.frozen 2
                            obtain ⟨r0, r1, r2⟩ := cells3 HRr.out
                            go_wp2_with fail
                            obtain ⟨q0, q1, q2⟩ := cells3 (Blk.store3 HRr.out (.bool false) (.slice none 0 0) (.int .i64 0))
                            exact bodyPost_ret (v := .tuple #[.agg #[.bool false, .slice none 0 0, .int .i64 0], .int .i64 5]) (by simp [results, Tryz.results32, go_sem, q0, q1, q2]) rfl
                              ⟨_, 0, 5, rfl, dv_zero _ _, Sz.zero _, .inr (.inr ⟨H48.out, HW.out, rfl, rfl⟩), below_three HB.out _ (Nat.le_refl _) _ _ _⟩
                          · have tbig := big_f hbig
                            have HNb0 := Lib.hid (show N ≤ 1048576 from Nat.le_of_not_lt hbig)
                            clear hbig hif
                            have HD0 := Lib.hid (show dy (hexV (T.data.toList.take k) : Int) 0 = dy (hexV (T.data.toList.take k) : Int) 0 from rfl)
                            obtain ⟨D1, hD1⟩ : ∃ D1, -dy (hexV (T.data.toList.take k) : Int) 0 = D1 := ⟨_, rfl⟩
                            obtain ⟨Z, hZ⟩ : ∃ Z : Int, 1 * (N : Int) = Z := ⟨_, rfl⟩
                            obtain ⟨D2, hD2⟩ : ∃ D2, D1 * dy 1 Z = D2 := ⟨_, rfl⟩
                            have hZb : Z.natAbs ≤ 1048576 := by rw [← hZ]; exact sgn_one HNb0.out
                            have HNb := Lib.hid (show decV (unsg E0.data.toList) ≤ 1048576 from by rw [← HF.out, ← HNv.out]; exact HNb0.out)
                            have hS1 : Sz 1200 D1 := by
                              rw [← hD1]
                              have h := sz_hex (n := 300) HK.out.2 (Nat.le_trans (by rw [List.length_take]; exact Nat.min_le_left _ _) (Nat.le_trans HK.out.1 HTs.out))
                              exact h.neg
                            have hS2 : Sz 1100000 D2 := by rw [← hD2]; exact hS1.shift Z (shl_ok hZb)
                            have HSz := Lib.hid (And.intro hS1 hS2)
                            have HD2 := Lib.hid (show D2 = dy (sgd (hasSg s.data.toList) (hexV (T.data.toList.take k))) (signE E0.data.toList * (decV (unsg E0.data.toList) : Int)) from by
                              rw [← hD2, ← hD1, HSn0.out, HSg.out, ← HF.out, ← HNv.out, hZ, dy_neg, dy_one]
                              simp [sgd])
                            have HD1 := Lib.hid hD1
                            have HD2' := Lib.hid hD2
                            have HZb := Lib.hid hZb
                            have hzw := (wr50 (Nat.le_trans hZb (by decide))).2
                            have hzi := (wr50 (Nat.le_trans hZb (by decide))).1
                            clear hD1 hD2 hS1 hS2 hZb
                            obtain ⟨k0, k1, k2⟩ := cells3 HQr.out
                            go_wp2_with fail
                            refine (rminus_v HDq.out).mono ?_
                            rintro e w1 ⟨v9, rfl, ⟨ng1, A1, n1, c1, E1, L1, rfl, hR1, hN1, hD1⟩, hb⟩
                            have HV1 := Lib.hid (show DV w1 (.agg #[.bool ng1, .slice A1 n1 c1, .int .i64 E1]) D1 from ⟨ng1, A1, n1, c1, E1, L1, rfl, hR1, hN1, by rw [hD1]; exact HD1.out⟩)
                            have HQ1 := Lib.hid (HQr.out.below hb HQr.out.lt)
                            have HR1 := Lib.hid (HRr.out.below hb HRr.out.lt)
                            have HB1 := Lib.hid (below_nx HB.out hb)
                            have fr0 := HQ1.out.frozen 0
                            have fr1 := HQ1.out.frozen 1
                            have fr2 := HQ1.out.frozen 2
                            clear hR1 hN1 hD1 hb k0 k1 k2
                            obtain ⟨k0, k1, k2⟩ := cells3 HQ1.out
                            go_wp2_with fail
                            have HVa := Lib.hid (dv_three HV1.out HQ1.out (.bool ng1) (.slice A1 n1 c1) (.int .i64 E1))
                            have HQa := Lib.hid (Blk.store3 HQ1.out (.bool ng1) (.slice A1 n1 c1) (.int .i64 E1))
                            have HRa := Lib.hid (blk_other3 HR1.out (Nat.ne_of_lt (Nat.lt_succ_self _)) (.bool ng1) (.slice A1 n1 c1) (.int .i64 E1))
                            have HBa := Lib.hid (below_three HB1.out (w.heap.size + 1) (Nat.le_succ _) (.bool ng1) (.slice A1 n1 c1) (.int .i64 E1))
                            clear fr0 fr1 fr2 k0 k1 k2
                            refine (rshift_v Z (Nat.le_trans HZb.out (by decide)) HVa.out (HSz.out.1.fit (by decide))).mono ?_
                            rintro e w2 ⟨v9, rfl, ⟨ng2, A2, n2, c2, E2, L2, rfl, hR2, hN2, hD2⟩, hb⟩
                            have HV2 := Lib.hid (show DV w2 (.agg #[.bool ng2, .slice A2 n2 c2, .int .i64 E2]) D2 from ⟨ng2, A2, n2, c2, E2, L2, rfl, hR2, hN2, by rw [hD2]; exact HD2'.out⟩)
                            have HQ2 := Lib.hid (HQa.out.below hb HQa.out.lt)
                            have HR2 := Lib.hid (HRa.out.below hb HRa.out.lt)
                            have HB2 := Lib.hid (below_nx HBa.out hb)
                            have fr0 := HQ2.out.frozen 0
                            have fr1 := HQ2.out.frozen 1
                            have fr2 := HQ2.out.frozen 2
                            obtain ⟨k0, k1, k2⟩ := cells3 HQ2.out
                            clear hR2 hN2 hD2 hb
                            go_wp2_with fail
                            have HVb := Lib.hid (dv_three HV2.out HQ2.out (.bool ng2) (.slice A2 n2 c2) (.int .i64 E2))
                            have HQb := Lib.hid (Blk.store3 HQ2.out (.bool ng2) (.slice A2 n2 c2) (.int .i64 E2))
                            have HRb := Lib.hid (blk_other3 HR2.out (Nat.ne_of_lt (Nat.lt_succ_self _)) (.bool ng2) (.slice A2 n2 c2) (.int .i64 E2))
                            have HBb := Lib.hid (below_three HB2.out (w.heap.size + 1) (Nat.le_succ _) (.bool ng2) (.slice A2 n2 c2) (.int .i64 E2))
                            clear fr0 fr1 fr2 k0 k1 k2
                            refine (rtext_v HVb.out HSz.out.2 (by decide)).mono ?_
                            rintro e w3 ⟨rfl, hb⟩
                            have HV3 := Lib.hid (HVb.out.below hb)
                            have HQ3 := Lib.hid (HQb.out.below hb HQb.out.lt)
                            have HR3 := Lib.hid (HRb.out.below hb HRb.out.lt)
                            have HB3 := Lib.hid (below_nx HBb.out hb)
                            clear hb
                            cases htx : (txt D2 == s.toList) with
                            | false =>
                              have HTx := Lib.hid htx
                              have HW := Lib.hid (show ∀ x, ¬ Canon s.data.toList x from fun x hx => by
                                have h := (canon_val H48.out HM.out HSp.out hx).1
                                have h2 := hx.1
                                rw [h, ← HD2.out, ← Lib.toList_data] at h2
                                rw [h2] at htx
                                simp at htx)
                              have HRr := HR3
                              have HB := HB3
                              have fr0 := HRr.out.frozen 0
                              have fr1 := HRr.out.frozen 1
                              have fr2 := HRr.out.frozen 2
                              obtain ⟨r0, r1, r2⟩ := cells3 HRr.out
                              go_wp2_with fail
                              obtain ⟨q0, q1, q2⟩ := cells3 (Blk.store3 HRr.out (.bool false) (.slice none 0 0) (.int .i64 0))
                              exact bodyPost_ret (v := .tuple #[.agg #[.bool false, .slice none 0 0, .int .i64 0], .int .i64 5]) (by simp [results, Tryz.results32, go_sem, q0, q1, q2]) rfl
                                ⟨_, 0, 5, rfl, dv_zero _ _, Sz.zero _, .inr (.inr ⟨H48.out, HW.out, rfl, rfl⟩), below_three HB.out _ (Nat.le_refl _) _ _ _⟩
                            | true =>
                              have HTx := Lib.hid htx
                              have HCn := Lib.hid (show Canon s.data.toList D2 from canon_back H48.out HM.out HSp.out (by rw [← Lib.toList_data]; exact (eq_of_beq htx).symm) HNb.out)
                              obtain ⟨k0, k1, k2⟩ := cells3 HQ3.out
                              have fr0 := HR3.out.frozen 0
                              have fr1 := HR3.out.frozen 1
                              have fr2 := HR3.out.frozen 2
                              obtain ⟨r0, r1, r2⟩ := cells3 HR3.out
                              go_wp2_with fail
                              obtain ⟨q0, q1, q2⟩ := cells3 (Blk.store3 HR3.out (.bool ng2) (.slice A2 n2 c2) (.int .i64 E2))
                              exact bodyPost_ret (v := .tuple #[.agg #[.bool ng2, .slice A2 n2 c2, .int .i64 E2], .int .i64 0]) (by simp [results, Tryz.results32, go_sem, q0, q1, q2]) rfl
                                ⟨_, D2, 0, rfl, dv_three HV3.out HR3.out _ _ _, HSz.out.2, .inr (.inl ⟨H48.out, HCn.out, rfl⟩), below_three HB3.out _ (Nat.le_refl _) _ _ _⟩
              · have tz0 : decide (0 < E0.size) = false := decide_eq_false hz0
                have tf0 : ((E0.size : Int) == 0) = true := by rw [Nat.eq_zero_of_not_pos hz0]; rfl
                have HW := Lib.hid (show ∀ x, ¬ Canon s.data.toList x from fun x hx => by
                  have h := (canon_val H48.out HM.out HSp.out hx).2.2.2.1
                  rw [(unsg_plain E0 (fun h0 => absurd h0 hz0)).1] at h
                  exact h (List.length_eq_zero_iff.1 (by rw [bytes_len]; exact Nat.eq_zero_of_not_pos hz0)))
                clear hz0
                have fr0 := HRr.out.frozen 0
                have fr1 := HRr.out.frozen 1
                have fr2 := HRr.out.frozen 2
                obtain ⟨r0, r1, r2⟩ := cells3 HRr.out
                go_wp2_with fail
                obtain ⟨q0, q1, q2⟩ := cells3 (Blk.store3 HRr.out (.bool false) (.slice none 0 0) (.int .i64 0))
                exact bodyPost_ret (v := .tuple #[.agg #[.bool false, .slice none 0 0, .int .i64 0], .int .i64 5]) (by simp [results, Tryz.results32, go_sem, q0, q1, q2]) rfl
                  ⟨_, 0, 5, rfl, dv_zero _ _, Sz.zero _, .inr (.inr ⟨H48.out, HW.out, rfl, rfl⟩), below_three HB.out _ (Nat.le_refl _) _ _ _⟩
            · have t112 : (((T[k].toNat : Nat) : Int) != 112) = true := by
                exact byte_112 h112
              have HSn := Lib.hid (bytes_snoc T k hlt)
              have HAt := Lib.hid (bytes_at T k hlt)
              have HP := Lib.hid h112
              clear h112
              obtain ⟨c, hc⟩ : ∃ c, T[k].toNat = c := ⟨_, rfl⟩
              have hways := hex_ways T[k] c hc
              rw [hc] at t112
              have HD112 := Lib.hid t112
              rcases hways with ⟨d, hd, hd16, he, t1, t2, t3⟩ | ⟨d, hd, hd16, he, t1, t2, t3, t4⟩ | ⟨hd, t1, t3⟩ | ⟨hd, t1, t2, t3⟩ | ⟨hd, t1, t2, t3, t4⟩
              case inl | inr.inl =>
                obtain ⟨g1, g2, g3, g4⟩ := hexd_facts (show c < 256 by rw [← hc]; exact byte_lt _) hd16
                have t4096 := lt4096 hlt HTs.out
                have HSt := Lib.hid (show Hexs (T.data.toList.take (k + 1)) ∧ dy (hexV (T.data.toList.take k) : Int) 0 * dy 1 4 + dy (d : Int) 0 = dy (hexV (T.data.toList.take (k + 1)) : Int) 0 from by
                  rw [HSn.out]
                  exact ⟨HK.out.2.snoc (by rw [hd]; exact hd16), by rw [hexV_snoc, hd]; exact hex_add _ _⟩)
                have HSz := Lib.hid (hex_sizes HK.out.2 (Nat.le_trans (by rw [List.length_take]; exact Nat.min_le_left _ _) (Nat.le_trans HK.out.1 HTs.out)) hd16)
                have HIk := Lib.hid (wrap_succ hlt HTs.out)
                have HLt := Lib.hid hlt
                have HDd := Lib.hid hd16
                obtain ⟨k0, k1, k2⟩ := cells3 HQr.out
                clear hd hd16
                go_wp2_with fail
                refine (rshift_v 4 (by decide) HDq.out HSz.out.1).mono ?_
                rintro e w1 ⟨v1, rfl, hv, hb⟩
                have HV1 := Lib.hid hv
                have HQ1 := Lib.hid (HQr.out.below hb HQr.out.lt)
                have HR1 := Lib.hid (HRr.out.below hb HRr.out.lt)
                have HB1 := Lib.hid (below_nx HB.out hb)
                clear hv hb k0 k1 k2
                go_wp2_with fail
                refine (rint_v (d : Int) _ (Int.le_trans (by decide) (Int.natCast_nonneg d)) (nat_small HDd.out)).mono ?_
                rintro e w2 ⟨v2, rfl, hv, hb⟩
                have HV2 := Lib.hid hv
                have HV1b := Lib.hid (HV1.out.below hb)
                have HQ2 := Lib.hid (HQ1.out.below hb HQ1.out.lt)
                have HR2 := Lib.hid (HR1.out.below hb HR1.out.lt)
                have HB2 := Lib.hid (below_nx HB1.out hb)
                clear hv hb
                go_wp2_with fail
                refine (radd_v HV1b.out HV2.out HSz.out.2.1 HSz.out.2.2).mono ?_
                rintro e w3 ⟨v3, rfl, ⟨ng3, A3, n3, c3, E3, L3, rfl, hR3, hN3, hD3⟩, hb⟩
                have HV3 := Lib.hid (And.intro hR3 (And.intro hN3 (show rdy ng3 L3 E3 = dy (hexV (T.data.toList.take (k + 1)) : Int) 0 from by rw [hD3]; exact HSt.out.2)))
                have HQ3 := Lib.hid (HQ2.out.below hb HQ2.out.lt)
                have HR3 := Lib.hid (HR2.out.below hb HR2.out.lt)
                have HB3 := Lib.hid (below_nx HB2.out hb)
                have fr0 := HQ3.out.frozen 0
                have fr1 := HQ3.out.frozen 1
                have fr2 := HQ3.out.frozen 2
                obtain ⟨k0, k1, k2⟩ := cells3 HQ3.out
                clear hR3 hN3 hD3 hb
                go_wp2_with fail
                go_roundw
                case rel => exact ⟨k + 1, by rw [HIk.out], Lib.hid ⟨HLt.out, HSt.out.1⟩, Lib.hid (bx_store HQ3.out HV3.out.1 HV3.out.2.1 HV3.out.2.2), Lib.hid ⟨blk_other3 HR3.out (Nat.ne_of_lt (Nat.lt_succ_self _)) _ _ _, below_three HB3.out (w.heap.size + 1) (Nat.le_succ _) _ _ _⟩⟩
                case measure => rw [HIk.out]; exact meas_succ HLt.out
              all_goals
                have HW := Lib.hid (canon_nohex H48.out (i := k) (c := T[k]) (by rw [← HT.out]; exact HAt.out) (by rw [← HT.out]; exact HK.out.2) hd HP.out)
                clear hd
                have fr0 := HRr.out.frozen 0
                have fr1 := HRr.out.frozen 1
                have fr2 := HRr.out.frozen 2
                obtain ⟨r0, r1, r2⟩ := cells3 HRr.out
                go_wp2_with fail
                obtain ⟨q0, q1, q2⟩ := cells3 (Blk.store3 HRr.out (.bool false) (.slice none 0 0) (.int .i64 0))
                exact bodyPost_ret (v := .tuple #[.agg #[.bool false, .slice none 0 0, .int .i64 0], .int .i64 5]) (by simp [results, Tryz.results32, go_sem, q0, q1, q2]) rfl
                  ⟨_, 0, 5, rfl, dv_zero _ _, Sz.zero _, .inr (.inr ⟨H48.out, HW.out, rfl, rfl⟩), below_three HB.out _ (Nat.le_refl _) _ _ _⟩
          · have tlt : decide (k < T.size) = false := decide_eq_false hlt
            have tge : decide (T.size ≤ k) = true := decide_eq_true (Nat.le_of_not_lt hlt)
            have HW := Lib.hid (canon_no112 H48.out (show (112 : UInt8) ∉ unsg s.data.toList from by
              rw [← HT.out]
              have h := hexs_no112 HK.out.2
              rw [List.take_of_length_le (by rw [bytes_len]; exact Nat.le_of_not_lt hlt)] at h
              exact h))
            clear hlt
            have fr0 := HRr.out.frozen 0
            have fr1 := HRr.out.frozen 1
            have fr2 := HRr.out.frozen 2
            obtain ⟨r0, r1, r2⟩ := cells3 HRr.out
            go_wp2_with fail
            obtain ⟨q0, q1, q2⟩ := cells3 (Blk.store3 HRr.out (.bool false) (.slice none 0 0) (.int .i64 0))
            exact bodyPost_ret (v := .tuple #[.agg #[.bool false, .slice none 0 0, .int .i64 0], .int .i64 5]) (by simp [results, Tryz.results32, go_sem, q0, q1, q2]) rfl
              ⟨_, 0, 5, rfl, dv_zero _ _, Sz.zero _, .inr (.inr ⟨H48.out, HW.out, rfl, rfl⟩), below_three HB.out _ (Nat.le_refl _) _ _ _⟩

      · obtain ⟨hT, hN⟩ := unsg_plain s (fun _ => h45)
        have t45 : (((s[0].toNat : Nat) : Int) == 45) = false := byte_ne h45
        have HT := Lib.hid hT.symm
        have HSn0 := Lib.hid hN
        have HTs := HS
        clear h45 hT hN hs
        go_enter Tryz.func32, Tryz.ntmps32
        go_wp2_with fail
        go_loopw [7] (fun i wr => ∃ k : Nat, i = .int .i64 (k : Int) ∧ Hid (k ≤ s.size ∧ Hexs (s.data.toList.take k)) ∧ Hid (Bx wr (w.heap.size + 1) (dy (hexV (s.data.toList.take k) : Int) 0)) ∧ Hid (Blk wr w.heap.size 30 #[.bool false, .slice none 0 0, .int .i64 0] ∧ Below w.heap.size w wr)) (fun i _ => s.size - (intOf i).toNat)
        case atStart =>
          refine ⟨0, rfl, Lib.hid ⟨Nat.zero_le _, fun _ h => by simp at h⟩, Lib.hid ?_, Lib.hid ⟨HR0.out, HB0.out⟩⟩
          have := bx_zero HQ0.out
          simpa [hexV, dy_zero] using this
        case round =>
          obtain ⟨k, rfl, HK, HBx, HBl⟩ := hrel
          obtain ⟨ngq, Aq, nq, cq, Eq, Lq, hBq, hRq, hNq, hDq⟩ := HBx.out
          have HQr := Lib.hid hBq
          have HRr := Lib.hid HBl.out.1
          have HB := Lib.hid HBl.out.2
          have HDq := Lib.hid (show DV wr (.agg #[.bool ngq, .slice Aq nq cq, .int .i64 Eq]) (dy (hexV (s.data.toList.take k) : Int) 0) from ⟨ngq, Aq, nq, cq, Eq, Lq, rfl, hRq, hNq, hDq⟩)
          clear hBq hRq hNq hDq HBl HBx HR0 HQ0 HB0
          by_cases hlt : k < s.size
          · have tlt : decide (k < s.size) = true := decide_eq_true hlt
            by_cases h112 : s[k] = 112
            · have t112 : (((s[k].toNat : Nat) : Int) != 112) = false := by rw [h112]; rfl
              have tge : decide (s.size ≤ k) = false := by simp; omega
              have HM := Lib.hid (show (112 : UInt8) ∉ s.data.toList.take k from hexs_no112 HK.out.2)
              have HSp := Lib.hid (show unsg s.data.toList = s.data.toList.take k ++ 112 :: s.data.toList.drop (k + 1) from by
                have h1 := bytes_at s k hlt
                rw [h112] at h1
                obtain ⟨h2, h3⟩ := List.getElem?_eq_some_iff.1 h1
                rw [← HT.out, ← h3, ← List.drop_eq_getElem_cons h2, List.take_append_drop])
              obtain ⟨j, hj⟩ : ∃ j, k + 1 = j := ⟨_, rfl⟩
              rw [hj] at HSp
              have e1 : (k : Int) + 1 = (j : Int) := by omega
              have e2 : wrap64 (j : Int) = (j : Int) := by have := HTs.out; unfold wrap64; omega
              have e3 : IntKind.i64.wrap (j : Int) = (j : Int) := wi_in (by have := HTs.out; omega)
              have hj1 : j ≤ s.size := by omega
              obtain ⟨E0, hE0⟩ : ∃ E0, s.extract j s.size = E0 := ⟨_, rfl⟩
              have HEl := Lib.hid (show E0.data.toList = s.data.toList.drop j from by rw [← hE0, Lib.extract_to_end])
              have HEs := Lib.hid (show E0.size ≤ 300 from by rw [← hE0]; have := HTs.out; simp; omega)
              rw [← HEl.out] at HSp
              clear h112 hj
              by_cases hz0 : 0 < E0.size
              · have tz0 : decide (0 < E0.size) = true := decide_eq_true hz0
                have tz1 : 1 ≤ E0.size := hz0
                by_cases hm : E0[0] = 45
                · have tm : (((E0[0].toNat : Nat) : Int) == 45) = true := by rw [hm]; rfl
                  obtain ⟨F, hF⟩ : ∃ F, E0.extract 1 E0.size = F := ⟨_, rfl⟩
                  have hFl := unsg_bytes E0 hz0 hm
                  rw [hF] at hFl
                  have HF := Lib.hid hFl.1
                  have HFz := Lib.hid (show F.size ≤ 300 from by rw [← hF]; have := HEs.out; simp; omega)
                  have HSg := Lib.hid (show signE E0.data.toList = -1 from by unfold signE; rw [hFl.2]; rfl)
                  clear hm hFl
                  by_cases hF0 : F.size = 0
                  · have tf0 : ((F.size : Int) == 0) = true := by rw [hF0]; rfl
                    have HW := Lib.hid (show ∀ x, ¬ Canon s.data.toList x from fun x hx => by
                      have h := (canon_val H48.out HM.out HSp.out hx).2.2.2.1
                      rw [← HF.out] at h
                      exact h (by apply List.length_eq_zero_iff.1; simpa using hF0))
                    clear hF0
                    have fr0 := HRr.out.frozen 0
                    have fr1 := HRr.out.frozen 1
                    have fr2 := HRr.out.frozen 2
                    obtain ⟨r0, r1, r2⟩ := cells3 HRr.out
                    go_wp2_with fail
                    obtain ⟨q0, q1, q2⟩ := cells3 (Blk.store3 HRr.out (.bool false) (.slice none 0 0) (.int .i64 0))
                    exact bodyPost_ret (v := .tuple #[.agg #[.bool false, .slice none 0 0, .int .i64 0], .int .i64 5]) (by simp [results, Tryz.results32, go_sem, q0, q1, q2]) rfl
                      ⟨_, 0, 5, rfl, dv_zero _ _, Sz.zero _, .inr (.inr ⟨H48.out, HW.out, rfl, rfl⟩), below_three HB.out _ (Nat.le_refl _) _ _ _⟩
                  · have tf0 := nz_f hF0
                    by_cases hF7 : 7 < F.size
                    · have tf7 := sev_t hF7
                      have HW := Lib.hid (show ∀ x, ¬ Canon s.data.toList x from fun x hx => by
                        have h := (canon_val H48.out HM.out HSp.out hx).2.2.2.2
                        rw [← HF.out] at h
                        rw [bytes_len] at h
                        exact absurd h (Nat.not_le_of_lt hF7))
                      clear hF0 hF7
                      have fr0 := HRr.out.frozen 0
                      have fr1 := HRr.out.frozen 1
                      have fr2 := HRr.out.frozen 2
                      obtain ⟨r0, r1, r2⟩ := cells3 HRr.out
                      go_wp2_with fail
                      obtain ⟨q0, q1, q2⟩ := cells3 (Blk.store3 HRr.out (.bool false) (.slice none 0 0) (.int .i64 0))
                      exact bodyPost_ret (v := .tuple #[.agg #[.bool false, .slice none 0 0, .int .i64 0], .int .i64 5]) (by simp [results, Tryz.results32, go_sem, q0, q1, q2]) rfl
                        ⟨_, 0, 5, rfl, dv_zero _ _, Sz.zero _, .inr (.inr ⟨H48.out, HW.out, rfl, rfl⟩), below_three HB.out _ (Nat.le_refl _) _ _ _⟩
                    · have tf7 := sev_f hF7
                      have HF7 := Lib.hid hF7
                      clear hF0 hF7
                      go_wp2_with fail
                      go_loop [11, 12] (fun n q => ∃ i N : Nat, n = .int .i64 (N : Int) ∧ q = .int .i64 (i : Int) ∧ Hid (i ≤ F.size ∧ Decs (F.data.toList.take i) ∧ N = decV (F.data.toList.take i) ∧ N < 10 ^ i)) (fun _ q => F.size - (intOf q).toNat)
                      case atStart => exact ⟨0, 0, rfl, rfl, Lib.hid ⟨Nat.zero_le _, (fun c h => by simp at h), by simp [decV], by decide⟩⟩
                      case round =>
                        obtain ⟨i, N, rfl, rfl, HI⟩ := hrel
                        by_cases hif : i < F.size
                        · have tif : decide (i < F.size) = true := decide_eq_true hif
                          have HFs := Lib.hid (bytes_snoc F i hif)
                          have HFa := Lib.hid (bytes_at F i hif)
                          obtain ⟨c, hc⟩ : ∃ c, F[i].toNat = c := ⟨_, rfl⟩
                          have hN7 := ten7 HI.out.2.2.2 (Nat.le_trans (Nat.le_of_lt hif) (Nat.le_of_not_lt HF7.out))
                          rcases dec_ways F[i] c hc with ⟨d, hd, hd10, he, hcd, t1, t2⟩ | ⟨hd, t1⟩ | ⟨hd, t1, t2⟩
                          · obtain ⟨a, b, m, f1, f2, f3, f4, f5, f6, f7, f8, f9, f10, hm⟩ := step_facts hN7 hcd hd10
                            have HSt := Lib.hid (show Decs (F.data.toList.take (i + 1)) ∧ m = decV (F.data.toList.take (i + 1)) ∧ m < 10 ^ (i + 1) from by
                              rw [HFs.out]
                              exact dec_round HI.out.2.1 HI.out.2.2.1 HI.out.2.2.2 hd hd10 hm)
                            have HIf := Lib.hid hif
                            have Hi1 := Lib.hid (wrap_succ hif HFz.out)
                            clear hd hcd hm hN7 he hd10
                            go_wp2_with fail
                            go_round
                            case rel => exact ⟨i + 1, m, rfl, by rw [Hi1.out], Lib.hid ⟨HIf.out, HSt.out⟩⟩
                            case measure => rw [Hi1.out]; exact meas_succ HIf.out
                          all_goals
                            have HW := Lib.hid (show ∀ x, ¬ Canon s.data.toList x from fun x hx => by
                              have h := (canon_val H48.out HM.out HSp.out hx).2.2.1
                              rw [← HF.out] at h
                              exact decs_not (List.mem_of_getElem? HFa.out) hd h)
                            clear hd hN7
                            have fr0 := HRr.out.frozen 0
                            have fr1 := HRr.out.frozen 1
                            have fr2 := HRr.out.frozen 2
                            obtain ⟨r0, r1, r2⟩ := cells3 HRr.out
                            go_wp2_with fail
                            obtain ⟨q0, q1, q2⟩ := cells3 (Blk.store3 HRr.out (.bool false) (.slice none 0 0) (.int .i64 0))
                            exact bodyPost_ret (v := .tuple #[.agg #[.bool false, .slice none 0 0, .int .i64 0], .int .i64 5]) (by simp [results, Tryz.results32, go_sem, q0, q1, q2]) rfl
                              ⟨_, 0, 5, rfl, dv_zero _ _, Sz.zero _, .inr (.inr ⟨H48.out, HW.out, rfl, rfl⟩), below_three HB.out _ (Nat.le_refl _) _ _ _⟩
                        · have tif : decide (i < F.size) = false := decide_eq_false hif
                          have HNv := Lib.hid (show N = decV F.data.toList from by
                            have h := HI.out.2.2.1
                            rw [List.take_of_length_le (by rw [bytes_len]; exact Nat.le_of_not_lt hif)] at h
                            exact h)
                          by_cases hbig : 1048576 < N
                          · have tbig := big_t hbig
                            have HW := Lib.hid (show ∀ x, ¬ Canon s.data.toList x from fun x hx => by
                              have h := (canon_val H48.out HM.out HSp.out hx).2.1
                              rw [← HF.out, ← HNv.out] at h
                              exact absurd h (Nat.not_le_of_lt hbig))
                            clear hbig hif
                            have fr0 := HRr.out.frozen 0
                            have fr1 := HRr.out.frozen 1
                            have fr2 := HRr.out.frozen 2
                            obtain ⟨r0, r1, r2⟩ := cells3 HRr.out
                            go_wp2_with fail
                            obtain ⟨q0, q1, q2⟩ := cells3 (Blk.store3 HRr.out (.bool false) (.slice none 0 0) (.int .i64 0))
                            exact bodyPost_ret (v := .tuple #[.agg #[.bool false, .slice none 0 0, .int .i64 0], .int .i64 5]) (by simp [results, Tryz.results32, go_sem, q0, q1, q2]) rfl
                              ⟨_, 0, 5, rfl, dv_zero _ _, Sz.zero _, .inr (.inr ⟨H48.out, HW.out, rfl, rfl⟩), below_three HB.out _ (Nat.le_refl _) _ _ _⟩
                          · have tbig := big_f hbig
                            have HNb0 := Lib.hid (show N ≤ 1048576 from Nat.le_of_not_lt hbig)
                            clear hbig hif
                            have HD0 := Lib.hid (show dy (hexV (s.data.toList.take k) : Int) 0 = dy (hexV (s.data.toList.take k) : Int) 0 from rfl)
                            obtain ⟨D1, hD1⟩ : ∃ D1, dy (hexV (s.data.toList.take k) : Int) 0 = D1 := ⟨_, rfl⟩
                            obtain ⟨Z, hZ⟩ : ∃ Z : Int, (-1) * (N : Int) = Z := ⟨_, rfl⟩
                            obtain ⟨D2, hD2⟩ : ∃ D2, D1 * dy 1 Z = D2 := ⟨_, rfl⟩
                            have hZb : Z.natAbs ≤ 1048576 := by rw [← hZ]; exact sgn_neg HNb0.out
                            have HNb := Lib.hid (show decV (unsg E0.data.toList) ≤ 1048576 from by rw [← HF.out, ← HNv.out]; exact HNb0.out)
                            have hS1 : Sz 1200 D1 := by
                              rw [← hD1]
                              have h := sz_hex (n := 300) HK.out.2 (Nat.le_trans (by rw [List.length_take]; exact Nat.min_le_left _ _) (Nat.le_trans HK.out.1 HTs.out))
                              exact h
                            have hS2 : Sz 1100000 D2 := by rw [← hD2]; exact hS1.shift Z (shl_ok hZb)
                            have HSz := Lib.hid (And.intro hS1 hS2)
                            have HD2 := Lib.hid (show D2 = dy (sgd (hasSg s.data.toList) (hexV (s.data.toList.take k))) (signE E0.data.toList * (decV (unsg E0.data.toList) : Int)) from by
                              rw [← hD2, ← hD1, HSn0.out, HSg.out, ← HF.out, ← HNv.out, hZ, dy_one]
                              simp [sgd])
                            have HD1 := Lib.hid hD1
                            have HD2' := Lib.hid hD2
                            have HZb := Lib.hid hZb
                            have hzw := (wr50 (Nat.le_trans hZb (by decide))).2
                            have hzi := (wr50 (Nat.le_trans hZb (by decide))).1
                            clear hD1 hD2 hS1 hS2 hZb
                            obtain ⟨k0, k1, k2⟩ := cells3 HQr.out
                            have HVa := Lib.hid (show DV wr (.agg #[.bool ngq, .slice Aq nq cq, .int .i64 Eq]) D1 from by rw [← HD1.out]; exact HDq.out)
                            have HQa := HQr
                            have HRa := HRr
                            have HBa := HB
                            go_wp2_with fail
                            clear k0 k1 k2
                            refine (rshift_v Z (Nat.le_trans HZb.out (by decide)) HVa.out (HSz.out.1.fit (by decide))).mono ?_
                            rintro e w2 ⟨v9, rfl, ⟨ng2, A2, n2, c2, E2, L2, rfl, hR2, hN2, hD2⟩, hb⟩
                            have HV2 := Lib.hid (show DV w2 (.agg #[.bool ng2, .slice A2 n2 c2, .int .i64 E2]) D2 from ⟨ng2, A2, n2, c2, E2, L2, rfl, hR2, hN2, by rw [hD2]; exact HD2'.out⟩)
                            have HQ2 := Lib.hid (HQa.out.below hb HQa.out.lt)
                            have HR2 := Lib.hid (HRa.out.below hb HRa.out.lt)
                            have HB2 := Lib.hid (below_nx HBa.out hb)
                            have fr0 := HQ2.out.frozen 0
                            have fr1 := HQ2.out.frozen 1
                            have fr2 := HQ2.out.frozen 2
                            obtain ⟨k0, k1, k2⟩ := cells3 HQ2.out
                            clear hR2 hN2 hD2 hb
                            go_wp2_with fail
                            have HVb := Lib.hid (dv_three HV2.out HQ2.out (.bool ng2) (.slice A2 n2 c2) (.int .i64 E2))
                            have HQb := Lib.hid (Blk.store3 HQ2.out (.bool ng2) (.slice A2 n2 c2) (.int .i64 E2))
                            have HRb := Lib.hid (blk_other3 HR2.out (Nat.ne_of_lt (Nat.lt_succ_self _)) (.bool ng2) (.slice A2 n2 c2) (.int .i64 E2))
                            have HBb := Lib.hid (below_three HB2.out (w.heap.size + 1) (Nat.le_succ _) (.bool ng2) (.slice A2 n2 c2) (.int .i64 E2))
                            clear fr0 fr1 fr2 k0 k1 k2
                            refine (rtext_v HVb.out HSz.out.2 (by decide)).mono ?_
                            rintro e w3 ⟨rfl, hb⟩
                            have HV3 := Lib.hid (HVb.out.below hb)
                            have HQ3 := Lib.hid (HQb.out.below hb HQb.out.lt)
                            have HR3 := Lib.hid (HRb.out.below hb HRb.out.lt)
                            have HB3 := Lib.hid (below_nx HBb.out hb)
                            clear hb
                            cases htx : (txt D2 == s.toList) with
                            | false =>
                              have HTx := Lib.hid htx
                              have HW := Lib.hid (show ∀ x, ¬ Canon s.data.toList x from fun x hx => by
                                have h := (canon_val H48.out HM.out HSp.out hx).1
                                have h2 := hx.1
                                rw [h, ← HD2.out, ← Lib.toList_data] at h2
                                rw [h2] at htx
                                simp at htx)
                              have HRr := HR3
                              have HB := HB3
                              have fr0 := HRr.out.frozen 0
                              have fr1 := HRr.out.frozen 1
                              have fr2 := HRr.out.frozen 2
                              obtain ⟨r0, r1, r2⟩ := cells3 HRr.out
                              go_wp2_with fail
                              obtain ⟨q0, q1, q2⟩ := cells3 (Blk.store3 HRr.out (.bool false) (.slice none 0 0) (.int .i64 0))
                              exact bodyPost_ret (v := .tuple #[.agg #[.bool false, .slice none 0 0, .int .i64 0], .int .i64 5]) (by simp [results, Tryz.results32, go_sem, q0, q1, q2]) rfl
                                ⟨_, 0, 5, rfl, dv_zero _ _, Sz.zero _, .inr (.inr ⟨H48.out, HW.out, rfl, rfl⟩), below_three HB.out _ (Nat.le_refl _) _ _ _⟩
                            | true =>
                              have HTx := Lib.hid htx
                              have HCn := Lib.hid (show Canon s.data.toList D2 from canon_back H48.out HM.out HSp.out (by rw [← Lib.toList_data]; exact (eq_of_beq htx).symm) HNb.out)
                              obtain ⟨k0, k1, k2⟩ := cells3 HQ3.out
                              have fr0 := HR3.out.frozen 0
                              have fr1 := HR3.out.frozen 1
                              have fr2 := HR3.out.frozen 2
                              obtain ⟨r0, r1, r2⟩ := cells3 HR3.out
                              go_wp2_with fail
                              obtain ⟨q0, q1, q2⟩ := cells3 (Blk.store3 HR3.out (.bool ng2) (.slice A2 n2 c2) (.int .i64 E2))
                              exact bodyPost_ret (v := .tuple #[.agg #[.bool ng2, .slice A2 n2 c2, .int .i64 E2], .int .i64 0]) (by simp [results, Tryz.results32, go_sem, q0, q1, q2]) rfl
                                ⟨_, D2, 0, rfl, dv_three HV3.out HR3.out _ _ _, HSz.out.2, .inr (.inl ⟨H48.out, HCn.out, rfl⟩), below_three HB3.out _ (Nat.le_refl _) _ _ _⟩

                · have tm : (((E0[0].toNat : Nat) : Int) == 45) = false := byte_ne hm
                  have hFl := unsg_plain E0 (fun _ => hm)
                  obtain ⟨F, hF⟩ : ∃ F, E0 = F := ⟨_, rfl⟩
                  have HF := Lib.hid (show F.data.toList = unsg E0.data.toList from by rw [hFl.1, hF])
                  have HSg := Lib.hid (show signE E0.data.toList = 1 from by unfold signE; rw [hFl.2]; rfl)
                  have HFz := Lib.hid (show F.size ≤ 300 from by rw [← hF]; exact HEs.out)
                  clear hm hFl
                  subst hF
                  by_cases hF0 : E0.size = 0
                  · have tf0 : ((E0.size : Int) == 0) = true := by rw [hF0]; rfl
                    have HW := Lib.hid (show ∀ x, ¬ Canon s.data.toList x from fun x hx => by
                      have h := (canon_val H48.out HM.out HSp.out hx).2.2.2.1
                      rw [← HF.out] at h
                      exact h (by apply List.length_eq_zero_iff.1; simpa using hF0))
                    clear hF0
                    have fr0 := HRr.out.frozen 0
                    have fr1 := HRr.out.frozen 1
                    have fr2 := HRr.out.frozen 2
                    obtain ⟨r0, r1, r2⟩ := cells3 HRr.out
                    go_wp2_with fail
                    obtain ⟨q0, q1, q2⟩ := cells3 (Blk.store3 HRr.out (.bool false) (.slice none 0 0) (.int .i64 0))
                    exact bodyPost_ret (v := .tuple #[.agg #[.bool false, .slice none 0 0, .int .i64 0], .int .i64 5]) (by simp [results, Tryz.results32, go_sem, q0, q1, q2]) rfl
                      ⟨_, 0, 5, rfl, dv_zero _ _, Sz.zero _, .inr (.inr ⟨H48.out, HW.out, rfl, rfl⟩), below_three HB.out _ (Nat.le_refl _) _ _ _⟩
                  · have tf0 := nz_f hF0
                    by_cases hF7 : 7 < E0.size
                    · have tf7 := sev_t hF7
                      have HW := Lib.hid (show ∀ x, ¬ Canon s.data.toList x from fun x hx => by
                        have h := (canon_val H48.out HM.out HSp.out hx).2.2.2.2
                        rw [← HF.out] at h
                        rw [bytes_len] at h
                        exact absurd h (Nat.not_le_of_lt hF7))
                      clear hF0 hF7
                      have fr0 := HRr.out.frozen 0
                      have fr1 := HRr.out.frozen 1
                      have fr2 := HRr.out.frozen 2
                      obtain ⟨r0, r1, r2⟩ := cells3 HRr.out
                      go_wp2_with fail
                      obtain ⟨q0, q1, q2⟩ := cells3 (Blk.store3 HRr.out (.bool false) (.slice none 0 0) (.int .i64 0))
                      exact bodyPost_ret (v := .tuple #[.agg #[.bool false, .slice none 0 0, .int .i64 0], .int .i64 5]) (by simp [results, Tryz.results32, go_sem, q0, q1, q2]) rfl
                        ⟨_, 0, 5, rfl, dv_zero _ _, Sz.zero _, .inr (.inr ⟨H48.out, HW.out, rfl, rfl⟩), below_three HB.out _ (Nat.le_refl _) _ _ _⟩
                    · have tf7 := sev_f hF7
                      have HF7 := Lib.hid hF7
                      clear hF0 hF7
                      go_wp2_with fail
                      go_loop [11, 12] (fun n q => ∃ i N : Nat, n = .int .i64 (N : Int) ∧ q = .int .i64 (i : Int) ∧ Hid (i ≤ E0.size ∧ Decs (E0.data.toList.take i) ∧ N = decV (E0.data.toList.take i) ∧ N < 10 ^ i)) (fun _ q => E0.size - (intOf q).toNat)
                      case atStart => exact ⟨0, 0, rfl, rfl, Lib.hid ⟨Nat.zero_le _, (fun c h => by simp at h), by simp [decV], by decide⟩⟩
                      case round =>
                        obtain ⟨i, N, rfl, rfl, HI⟩ := hrel
                        by_cases hif : i < E0.size
                        · have tif : decide (i < E0.size) = true := decide_eq_true hif
                          have HFs := Lib.hid (bytes_snoc E0 i hif)
                          have HFa := Lib.hid (bytes_at E0 i hif)
                          obtain ⟨c, hc⟩ : ∃ c, E0[i].toNat = c := ⟨_, rfl⟩
                          have hN7 := ten7 HI.out.2.2.2 (Nat.le_trans (Nat.le_of_lt hif) (Nat.le_of_not_lt HF7.out))
                          rcases dec_ways E0[i] c hc with ⟨d, hd, hd10, he, hcd, t1, t2⟩ | ⟨hd, t1⟩ | ⟨hd, t1, t2⟩
                          · obtain ⟨a, b, m, f1, f2, f3, f4, f5, f6, f7, f8, f9, f10, hm⟩ := step_facts hN7 hcd hd10
                            have HSt := Lib.hid (show Decs (E0.data.toList.take (i + 1)) ∧ m = decV (E0.data.toList.take (i + 1)) ∧ m < 10 ^ (i + 1) from by
                              rw [HFs.out]
                              exact dec_round HI.out.2.1 HI.out.2.2.1 HI.out.2.2.2 hd hd10 hm)
                            have HIf := Lib.hid hif
                            have Hi1 := Lib.hid (wrap_succ hif HFz.out)
                            clear hd hcd hm hN7 he hd10
                            go_wp2_with fail
                            go_round
                            case rel => exact ⟨i + 1, m, rfl, by rw [Hi1.out], Lib.hid ⟨HIf.out, HSt.out⟩⟩
                            case measure => rw [Hi1.out]; exact meas_succ HIf.out
                          all_goals
                            have HW := Lib.hid (show ∀ x, ¬ Canon s.data.toList x from fun x hx => by
                              have h := (canon_val H48.out HM.out HSp.out hx).2.2.1
                              rw [← HF.out] at h
                              exact decs_not (List.mem_of_getElem? HFa.out) hd h)
                            clear hd hN7
                            have fr0 := HRr.out.frozen 0
                            have fr1 := HRr.out.frozen 1
                            have fr2 := HRr.out.frozen 2
                            obtain ⟨r0, r1, r2⟩ := cells3 HRr.out
                            go_wp2_with fail
                            obtain ⟨q0, q1, q2⟩ := cells3 (Blk.store3 HRr.out (.bool false) (.slice none 0 0) (.int .i64 0))
                            exact bodyPost_ret (v := .tuple #[.agg #[.bool false, .slice none 0 0, .int .i64 0], .int .i64 5]) (by simp [results, Tryz.results32, go_sem, q0, q1, q2]) rfl
                              ⟨_, 0, 5, rfl, dv_zero _ _, Sz.zero _, .inr (.inr ⟨H48.out, HW.out, rfl, rfl⟩), below_three HB.out _ (Nat.le_refl _) _ _ _⟩
                        · have tif : decide (i < E0.size) = false := decide_eq_false hif
                          have HNv := Lib.hid (show N = decV E0.data.toList from by
                            have h := HI.out.2.2.1
                            rw [List.take_of_length_le (by rw [bytes_len]; exact Nat.le_of_not_lt hif)] at h
                            exact h)
                          by_cases hbig : 1048576 < N
                          · have tbig := big_t hbig
                            have HW := Lib.hid (show ∀ x, ¬ Canon s.data.toList x from fun x hx => by
                              have h := (canon_val H48.out HM.out HSp.out hx).2.1
                              rw [← HF.out, ← HNv.out] at h
                              exact absurd h (Nat.not_le_of_lt hbig))
                            clear hbig hif
                            have fr0 := HRr.out.frozen 0
                            have fr1 := HRr.out.frozen 1
                            have fr2 := HRr.out.frozen 2
                            obtain ⟨r0, r1, r2⟩ := cells3 HRr.out
                            go_wp2_with fail
                            obtain ⟨q0, q1, q2⟩ := cells3 (Blk.store3 HRr.out (.bool false) (.slice none 0 0) (.int .i64 0))
                            exact bodyPost_ret (v := .tuple #[.agg #[.bool false, .slice none 0 0, .int .i64 0], .int .i64 5]) (by simp [results, Tryz.results32, go_sem, q0, q1, q2]) rfl
                              ⟨_, 0, 5, rfl, dv_zero _ _, Sz.zero _, .inr (.inr ⟨H48.out, HW.out, rfl, rfl⟩), below_three HB.out _ (Nat.le_refl _) _ _ _⟩
                          · have tbig := big_f hbig
                            have HNb0 := Lib.hid (show N ≤ 1048576 from Nat.le_of_not_lt hbig)
                            clear hbig hif
                            have HD0 := Lib.hid (show dy (hexV (s.data.toList.take k) : Int) 0 = dy (hexV (s.data.toList.take k) : Int) 0 from rfl)
                            obtain ⟨D1, hD1⟩ : ∃ D1, dy (hexV (s.data.toList.take k) : Int) 0 = D1 := ⟨_, rfl⟩
                            obtain ⟨Z, hZ⟩ : ∃ Z : Int, 1 * (N : Int) = Z := ⟨_, rfl⟩
                            obtain ⟨D2, hD2⟩ : ∃ D2, D1 * dy 1 Z = D2 := ⟨_, rfl⟩
                            have hZb : Z.natAbs ≤ 1048576 := by rw [← hZ]; exact sgn_one HNb0.out
                            have HNb := Lib.hid (show decV (unsg E0.data.toList) ≤ 1048576 from by rw [← HF.out, ← HNv.out]; exact HNb0.out)
                            have hS1 : Sz 1200 D1 := by
                              rw [← hD1]
                              have h := sz_hex (n := 300) HK.out.2 (Nat.le_trans (by rw [List.length_take]; exact Nat.min_le_left _ _) (Nat.le_trans HK.out.1 HTs.out))
                              exact h
                            have hS2 : Sz 1100000 D2 := by rw [← hD2]; exact hS1.shift Z (shl_ok hZb)
                            have HSz := Lib.hid (And.intro hS1 hS2)
                            have HD2 := Lib.hid (show D2 = dy (sgd (hasSg s.data.toList) (hexV (s.data.toList.take k))) (signE E0.data.toList * (decV (unsg E0.data.toList) : Int)) from by
                              rw [← hD2, ← hD1, HSn0.out, HSg.out, ← HF.out, ← HNv.out, hZ, dy_one]
                              simp [sgd])
                            have HD1 := Lib.hid hD1
                            have HD2' := Lib.hid hD2
                            have HZb := Lib.hid hZb
                            have hzw := (wr50 (Nat.le_trans hZb (by decide))).2
                            have hzi := (wr50 (Nat.le_trans hZb (by decide))).1
                            clear hD1 hD2 hS1 hS2 hZb
                            obtain ⟨k0, k1, k2⟩ := cells3 HQr.out
                            have HVa := Lib.hid (show DV wr (.agg #[.bool ngq, .slice Aq nq cq, .int .i64 Eq]) D1 from by rw [← HD1.out]; exact HDq.out)
                            have HQa := HQr
                            have HRa := HRr
                            have HBa := HB
                            go_wp2_with fail
                            clear k0 k1 k2
                            refine (rshift_v Z (Nat.le_trans HZb.out (by decide)) HVa.out (HSz.out.1.fit (by decide))).mono ?_
                            rintro e w2 ⟨v9, rfl, ⟨ng2, A2, n2, c2, E2, L2, rfl, hR2, hN2, hD2⟩, hb⟩
                            have HV2 := Lib.hid (show DV w2 (.agg #[.bool ng2, .slice A2 n2 c2, .int .i64 E2]) D2 from ⟨ng2, A2, n2, c2, E2, L2, rfl, hR2, hN2, by rw [hD2]; exact HD2'.out⟩)
                            have HQ2 := Lib.hid (HQa.out.below hb HQa.out.lt)
                            have HR2 := Lib.hid (HRa.out.below hb HRa.out.lt)
                            have HB2 := Lib.hid (below_nx HBa.out hb)
                            have fr0 := HQ2.out.frozen 0
                            have fr1 := HQ2.out.frozen 1
                            have fr2 := HQ2.out.frozen 2
                            obtain ⟨k0, k1, k2⟩ := cells3 HQ2.out
                            clear hR2 hN2 hD2 hb
                            go_wp2_with fail
                            have HVb := Lib.hid (dv_three HV2.out HQ2.out (.bool ng2) (.slice A2 n2 c2) (.int .i64 E2))
                            have HQb := Lib.hid (Blk.store3 HQ2.out (.bool ng2) (.slice A2 n2 c2) (.int .i64 E2))
                            have HRb := Lib.hid (blk_other3 HR2.out (Nat.ne_of_lt (Nat.lt_succ_self _)) (.bool ng2) (.slice A2 n2 c2) (.int .i64 E2))
                            have HBb := Lib.hid (below_three HB2.out (w.heap.size + 1) (Nat.le_succ _) (.bool ng2) (.slice A2 n2 c2) (.int .i64 E2))
                            clear fr0 fr1 fr2 k0 k1 k2
                            refine (rtext_v HVb.out HSz.out.2 (by decide)).mono ?_
                            rintro e w3 ⟨rfl, hb⟩
                            have HV3 := Lib.hid (HVb.out.below hb)
                            have HQ3 := Lib.hid (HQb.out.below hb HQb.out.lt)
                            have HR3 := Lib.hid (HRb.out.below hb HRb.out.lt)
                            have HB3 := Lib.hid (below_nx HBb.out hb)
                            clear hb
                            cases htx : (txt D2 == s.toList) with
                            | false =>
                              have HTx := Lib.hid htx
                              have HW := Lib.hid (show ∀ x, ¬ Canon s.data.toList x from fun x hx => by
                                have h := (canon_val H48.out HM.out HSp.out hx).1
                                have h2 := hx.1
                                rw [h, ← HD2.out, ← Lib.toList_data] at h2
                                rw [h2] at htx
                                simp at htx)
                              have HRr := HR3
                              have HB := HB3
                              have fr0 := HRr.out.frozen 0
                              have fr1 := HRr.out.frozen 1
                              have fr2 := HRr.out.frozen 2
                              obtain ⟨r0, r1, r2⟩ := cells3 HRr.out
                              go_wp2_with fail
                              obtain ⟨q0, q1, q2⟩ := cells3 (Blk.store3 HRr.out (.bool false) (.slice none 0 0) (.int .i64 0))
                              exact bodyPost_ret (v := .tuple #[.agg #[.bool false, .slice none 0 0, .int .i64 0], .int .i64 5]) (by simp [results, Tryz.results32, go_sem, q0, q1, q2]) rfl
                                ⟨_, 0, 5, rfl, dv_zero _ _, Sz.zero _, .inr (.inr ⟨H48.out, HW.out, rfl, rfl⟩), below_three HB.out _ (Nat.le_refl _) _ _ _⟩
                            | true =>
                              have HTx := Lib.hid htx
                              have HCn := Lib.hid (show Canon s.data.toList D2 from canon_back H48.out HM.out HSp.out (by rw [← Lib.toList_data]; exact (eq_of_beq htx).symm) HNb.out)
                              obtain ⟨k0, k1, k2⟩ := cells3 HQ3.out
                              have fr0 := HR3.out.frozen 0
                              have fr1 := HR3.out.frozen 1
                              have fr2 := HR3.out.frozen 2
                              obtain ⟨r0, r1, r2⟩ := cells3 HR3.out
                              go_wp2_with fail
                              obtain ⟨q0, q1, q2⟩ := cells3 (Blk.store3 HR3.out (.bool ng2) (.slice A2 n2 c2) (.int .i64 E2))
                              exact bodyPost_ret (v := .tuple #[.agg #[.bool ng2, .slice A2 n2 c2, .int .i64 E2], .int .i64 0]) (by simp [results, Tryz.results32, go_sem, q0, q1, q2]) rfl
                                ⟨_, D2, 0, rfl, dv_three HV3.out HR3.out _ _ _, HSz.out.2, .inr (.inl ⟨H48.out, HCn.out, rfl⟩), below_three HB3.out _ (Nat.le_refl _) _ _ _⟩
              · have tz0 : decide (0 < E0.size) = false := decide_eq_false hz0
                have tf0 : ((E0.size : Int) == 0) = true := by rw [Nat.eq_zero_of_not_pos hz0]; rfl
                have HW := Lib.hid (show ∀ x, ¬ Canon s.data.toList x from fun x hx => by
                  have h := (canon_val H48.out HM.out HSp.out hx).2.2.2.1
                  rw [(unsg_plain E0 (fun h0 => absurd h0 hz0)).1] at h
                  exact h (List.length_eq_zero_iff.1 (by rw [bytes_len]; exact Nat.eq_zero_of_not_pos hz0)))
                clear hz0
                have fr0 := HRr.out.frozen 0
                have fr1 := HRr.out.frozen 1
                have fr2 := HRr.out.frozen 2
                obtain ⟨r0, r1, r2⟩ := cells3 HRr.out
                go_wp2_with fail
                obtain ⟨q0, q1, q2⟩ := cells3 (Blk.store3 HRr.out (.bool false) (.slice none 0 0) (.int .i64 0))
                exact bodyPost_ret (v := .tuple #[.agg #[.bool false, .slice none 0 0, .int .i64 0], .int .i64 5]) (by simp [results, Tryz.results32, go_sem, q0, q1, q2]) rfl
                  ⟨_, 0, 5, rfl, dv_zero _ _, Sz.zero _, .inr (.inr ⟨H48.out, HW.out, rfl, rfl⟩), below_three HB.out _ (Nat.le_refl _) _ _ _⟩
            · have t112 : (((s[k].toNat : Nat) : Int) != 112) = true := by
                exact byte_112 h112
              have HSn := Lib.hid (bytes_snoc s k hlt)
              have HAt := Lib.hid (bytes_at s k hlt)
              have HP := Lib.hid h112
              clear h112
              obtain ⟨c, hc⟩ : ∃ c, s[k].toNat = c := ⟨_, rfl⟩
              have hways := hex_ways s[k] c hc
              rw [hc] at t112
              have HD112 := Lib.hid t112
              rcases hways with ⟨d, hd, hd16, he, t1, t2, t3⟩ | ⟨d, hd, hd16, he, t1, t2, t3, t4⟩ | ⟨hd, t1, t3⟩ | ⟨hd, t1, t2, t3⟩ | ⟨hd, t1, t2, t3, t4⟩
              case inl | inr.inl =>
                obtain ⟨g1, g2, g3, g4⟩ := hexd_facts (show c < 256 by rw [← hc]; exact byte_lt _) hd16
                have t4096 := lt4096 hlt HTs.out
                have HSt := Lib.hid (show Hexs (s.data.toList.take (k + 1)) ∧ dy (hexV (s.data.toList.take k) : Int) 0 * dy 1 4 + dy (d : Int) 0 = dy (hexV (s.data.toList.take (k + 1)) : Int) 0 from by
                  rw [HSn.out]
                  exact ⟨HK.out.2.snoc (by rw [hd]; exact hd16), by rw [hexV_snoc, hd]; exact hex_add _ _⟩)
                have HSz := Lib.hid (hex_sizes HK.out.2 (Nat.le_trans (by rw [List.length_take]; exact Nat.min_le_left _ _) (Nat.le_trans HK.out.1 HTs.out)) hd16)
                have HIk := Lib.hid (wrap_succ hlt HTs.out)
                have HLt := Lib.hid hlt
                have HDd := Lib.hid hd16
                obtain ⟨k0, k1, k2⟩ := cells3 HQr.out
                clear hd hd16
                go_wp2_with fail
                refine (rshift_v 4 (by decide) HDq.out HSz.out.1).mono ?_
                rintro e w1 ⟨v1, rfl, hv, hb⟩
                have HV1 := Lib.hid hv
                have HQ1 := Lib.hid (HQr.out.below hb HQr.out.lt)
                have HR1 := Lib.hid (HRr.out.below hb HRr.out.lt)
                have HB1 := Lib.hid (below_nx HB.out hb)
                clear hv hb k0 k1 k2
                go_wp2_with fail
                refine (rint_v (d : Int) _ (Int.le_trans (by decide) (Int.natCast_nonneg d)) (nat_small HDd.out)).mono ?_
                rintro e w2 ⟨v2, rfl, hv, hb⟩
                have HV2 := Lib.hid hv
                have HV1b := Lib.hid (HV1.out.below hb)
                have HQ2 := Lib.hid (HQ1.out.below hb HQ1.out.lt)
                have HR2 := Lib.hid (HR1.out.below hb HR1.out.lt)
                have HB2 := Lib.hid (below_nx HB1.out hb)
                clear hv hb
                go_wp2_with fail
                refine (radd_v HV1b.out HV2.out HSz.out.2.1 HSz.out.2.2).mono ?_
                rintro e w3 ⟨v3, rfl, ⟨ng3, A3, n3, c3, E3, L3, rfl, hR3, hN3, hD3⟩, hb⟩
                have HV3 := Lib.hid (And.intro hR3 (And.intro hN3 (show rdy ng3 L3 E3 = dy (hexV (s.data.toList.take (k + 1)) : Int) 0 from by rw [hD3]; exact HSt.out.2)))
                have HQ3 := Lib.hid (HQ2.out.below hb HQ2.out.lt)
                have HR3 := Lib.hid (HR2.out.below hb HR2.out.lt)
                have HB3 := Lib.hid (below_nx HB2.out hb)
                have fr0 := HQ3.out.frozen 0
                have fr1 := HQ3.out.frozen 1
                have fr2 := HQ3.out.frozen 2
                obtain ⟨k0, k1, k2⟩ := cells3 HQ3.out
                clear hR3 hN3 hD3 hb
                go_wp2_with fail
                go_roundw
                case rel => exact ⟨k + 1, by rw [HIk.out], Lib.hid ⟨HLt.out, HSt.out.1⟩, Lib.hid (bx_store HQ3.out HV3.out.1 HV3.out.2.1 HV3.out.2.2), Lib.hid ⟨blk_other3 HR3.out (Nat.ne_of_lt (Nat.lt_succ_self _)) _ _ _, below_three HB3.out (w.heap.size + 1) (Nat.le_succ _) _ _ _⟩⟩
                case measure => rw [HIk.out]; exact meas_succ HLt.out
              all_goals
                have HW := Lib.hid (canon_nohex H48.out (i := k) (c := s[k]) (by rw [← HT.out]; exact HAt.out) (by rw [← HT.out]; exact HK.out.2) hd HP.out)
                clear hd
                have fr0 := HRr.out.frozen 0
                have fr1 := HRr.out.frozen 1
                have fr2 := HRr.out.frozen 2
                obtain ⟨r0, r1, r2⟩ := cells3 HRr.out
                go_wp2_with fail
                obtain ⟨q0, q1, q2⟩ := cells3 (Blk.store3 HRr.out (.bool false) (.slice none 0 0) (.int .i64 0))
                exact bodyPost_ret (v := .tuple #[.agg #[.bool false, .slice none 0 0, .int .i64 0], .int .i64 5]) (by simp [results, Tryz.results32, go_sem, q0, q1, q2]) rfl
                  ⟨_, 0, 5, rfl, dv_zero _ _, Sz.zero _, .inr (.inr ⟨H48.out, HW.out, rfl, rfl⟩), below_three HB.out _ (Nat.le_refl _) _ _ _⟩
          · have tlt : decide (k < s.size) = false := decide_eq_false hlt
            have tge : decide (s.size ≤ k) = true := decide_eq_true (Nat.le_of_not_lt hlt)
            have HW := Lib.hid (canon_no112 H48.out (show (112 : UInt8) ∉ unsg s.data.toList from by
              rw [← HT.out]
              have h := hexs_no112 HK.out.2
              rw [List.take_of_length_le (by rw [bytes_len]; exact Nat.le_of_not_lt hlt)] at h
              exact h))
            clear hlt
            have fr0 := HRr.out.frozen 0
            have fr1 := HRr.out.frozen 1
            have fr2 := HRr.out.frozen 2
            obtain ⟨r0, r1, r2⟩ := cells3 HRr.out
            go_wp2_with fail
            obtain ⟨q0, q1, q2⟩ := cells3 (Blk.store3 HRr.out (.bool false) (.slice none 0 0) (.int .i64 0))
            exact bodyPost_ret (v := .tuple #[.agg #[.bool false, .slice none 0 0, .int .i64 0], .int .i64 5]) (by simp [results, Tryz.results32, go_sem, q0, q1, q2]) rfl
              ⟨_, 0, 5, rfl, dv_zero _ _, Sz.zero _, .inr (.inr ⟨H48.out, HW.out, rfl, rfl⟩), below_three HB.out _ (Nat.le_refl _) _ _ _⟩

    · obtain ⟨hT, hN⟩ := unsg_plain s (fun h0 => absurd h0 hz)
      have tz : decide (0 < s.size) = false := decide_eq_false hz
      have HT := Lib.hid hT.symm
      have HSn0 := Lib.hid hN
      have HTs := HS
      clear hT hN hs
      have HW := Lib.hid (canon_no112 H48.out (show (112 : UInt8) ∉ unsg s.data.toList from by
        have h0 : s.data.toList = [] := List.length_eq_zero_iff.1 (by rw [bytes_len]; exact Nat.eq_zero_of_not_pos hz)
        rw [← HT.out, h0]
        simp))
      have tz0 : s.size = 0 := Nat.eq_zero_of_not_pos hz
      clear hz
      go_enter Tryz.func32, Tryz.ntmps32
      go_wp2_with fail
      go_loopw [7] (fun i wr => i = .int .i64 0 ∧ Hid (Blk wr w.heap.size 30 #[.bool false, .slice none 0 0, .int .i64 0] ∧ Below w.heap.size w wr)) (fun _ _ => 0)
      case atStart => exact ⟨rfl, Lib.hid ⟨HR0.out, HB0.out⟩⟩
      case round =>
        obtain ⟨rfl, HBl⟩ := hrel
        have HRr := Lib.hid HBl.out.1
        have HB := Lib.hid HBl.out.2
        clear HBl HR0 HQ0 HB0
        have fr0 := HRr.out.frozen 0
        have fr1 := HRr.out.frozen 1
        have fr2 := HRr.out.frozen 2
        obtain ⟨r0, r1, r2⟩ := cells3 HRr.out
        go_wp2_with fail
        obtain ⟨q0, q1, q2⟩ := cells3 (Blk.store3 HRr.out (.bool false) (.slice none 0 0) (.int .i64 0))
        exact bodyPost_ret (v := .tuple #[.agg #[.bool false, .slice none 0 0, .int .i64 0], .int .i64 5]) (by simp [results, Tryz.results32, go_sem, q0, q1, q2]) rfl
          ⟨_, 0, 5, rfl, dv_zero _ _, Sz.zero _, .inr (.inr ⟨H48.out, HW.out, rfl, rfl⟩), below_three HB.out _ (Nat.le_refl _) _ _ _⟩

end Go.Proofs.YtdokpnfmmbkjfaaGreatDoor
