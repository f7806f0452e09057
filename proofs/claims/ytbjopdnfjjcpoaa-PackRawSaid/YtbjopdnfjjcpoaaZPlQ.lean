/-
PackRaw, without an error. Conditions: the lists have at most 1000 numbers.
-/
import Derived.Test.YtbjopdnfjjcpoaaZPlO
set_option linter.unusedVariables false
set_option linter.unusedSimpArgs false
set_option linter.unnecessarySimpa false
namespace Go.Proofs.Ytbjopdnfjjcpoaa
open Go.RowKit
attribute [local go_sem ↓] Go.wp_at_zero Go.wp_at_succ

theorem fl_r {z : Int} {M : Nat} (h : z = (M : Int)) (hM : M < 1048576) : IntKind.i64.wrap z = (M : Int) ∧ wrap64 z = (M : Int) := by
  subst h
  exact ⟨wrapi (by omega) (by omega), wrap_id (by unfold I64; omega)⟩
theorem getD_wdr {l : List Nat} (h : Wds l) (k : Nat) : l.getD k 0 < 18446744073709551616 := by
  rcases Nat.lt_or_ge k l.length with h1 | h1
  · rw [getD_of_lt h1]; exact h.at_ k h1
  · rw [getD_of_le h1]; omega
theorem wds_of_getD9 {l : List Nat} (h : ∀ k, k < l.length → l.getD k 0 < 18446744073709551616) : Wds l := by
  intro b hb
  obtain ⟨k, hk, rfl⟩ := List.mem_iff_getElem.1 hb
  rw [← getD_of_lt hk]
  exact h k hk
theorem wds_img9 {l l' : List Nat} {o R C L : Nat} {T : Nat → Nat → Nat} (hl : Wds l) (h : Img l o R C L T l') (hp : ∀ a, a < R → ∀ b, b < C → T a b < 18446744073709551616) : Wds l' := by
  refine wds_of_getD9 fun x hx => ?_
  by_cases e : ∃ a, a < R ∧ ∃ b, b < C ∧ x = o + a + b * L
  · obtain ⟨a, ha, b, hb, rfl⟩ := e
    rw [h.2.1 a ha b hb]
    exact hp a ha b hb
  · rw [h.2.2 x (fun a ha b hb e3 => e ⟨a, ha, b, hb, e3⟩)]
    exact gr_wds hl _
theorem below_onlr {z g : Nat} {w W W' : World} (h : Below z w W) (hO : Only g W W') (hg : z ≤ g) (hz : z ≤ W.heap.size) : Below z w W' := h.grown hO hz (fun k hk => by simp at hk; omega)
theorem owb9 {w : World} {g : Nat} {l : List Nat} (h : Blk w g 39 (f64s l).toArray) : Own w g l := ⟨_, h, by show List.take l.length (f64s l) = _; rw [List.take_of_length_le (by simp [f64s])]⟩
/-- A value is a list of these numbers. -/
def SlF (W : World) (v : Value) (n : Nat) (l : List Nat) : Prop := ∃ g c, v = .slice (some ⟨g, 0, none⟩) n c ∧ Own W g l
theorem SlF.below {W W' : World} {v : Value} {n : Nat} {l : List Nat} (h : SlF W v n l) (hb : Below W.heap.size W W') : SlF W' v n l := by
  obtain ⟨g, c, h1, h2⟩ := h
  exact ⟨g, c, h1, h2.nxt hb⟩
set_option maxRecDepth 100000 in
set_option maxHeartbeats 16000000 in
theorem packRaw_ok (r k : Int) (A : Option Addr) (n c : Nat) (l : List Nat) (i j : Int) (Am : Option Addr) (nm cm : Nat) (lm : List Nat) (o R C L : Nat) (w : World) (hA : Row w A (f64s l)) (hW : Wds l) (hl : l.length = n) (hn : n ≤ 1000) (hr : I64 r) (hk : I64 k) (hj : I64 j) (hAm : Row w Am (f64s lm)) (hWm : Wds lm) (hlm : lm.length = nm) (hnm : nm ≤ 1000) (hoI : I64 o) (hLI : I64 L) (hR : R ≤ 20) (hC : C ≤ 20) (hL1 : 1 ≤ L) (hRL : R ≤ L) (hmr : R = 0 ∨ C = 0 ∨ o + (C - 1) * L + (R - 1) < nm) (hwh : whB r k n = true) (hf : (R : Int) ≤ r ∧ (C : Int) ≤ k) : Calls Try.prog 4 #[.int .i64 r, .int .i64 k, .slice A n c, .int .i64 i, .int .i64 j, mat Am nm cm o R C L] w fun e w' => e = .returned (.bool true) ∧ Below w.heap.size w w' := by
  have hG : greatB nm (R : Int) (C : Int) = false := by unfold greatB; simp; omega
  have HGr := Lib.hid (fun W => great_any Am nm cm o R C L W)
  rw [hG] at HGr
  have HA := Lib.hid hA
  have HCp := Lib.hid (fun W (hb : Below w.heap.size w W) => show Calls Try.prog 15 #[.slice A n c] W fun e w' => ∃ g c', e = .returned (.slice (some ⟨g, 0, none⟩) n c') ∧ Own w' g l ∧ Below W.heap.size W w' from by
    have h := rcopy_any A c l W (hA.below hb) (by omega)
    rw [hl] at h
    refine h.mono ?_
    rintro e w' ⟨g, c', h1, h2, _, _, _, h3⟩
    exact ⟨g, c', h1, h2, h3⟩)
  obtain ⟨tb, htb⟩ : ∃ tb, tpB r k n i j = tb := ⟨_, rfl⟩
  obtain ⟨x, hx⟩ : ∃ x, pX l r k n i j = x := ⟨_, rfl⟩
  have HX0 := Lib.hid (show tb = false → x = 0 from fun h => by rw [← hx, pX, htb, h]; rfl)
  have HX1 := Lib.hid (show tb = true → x = l.getD (i * k + j).toNat 0 from fun h => by rw [← hx, pX, htb, h]; rfl)
  have HTb := Lib.hid htb
  have HAt := Lib.hid (fun gD cD W (h : Row W (some ⟨gD, 0, none⟩) (f64s l)) => show Calls Try.prog 16 #[pnl r k (some ⟨gD, 0, none⟩) n cD, .int .i64 i, .int .i64 j] W fun e w' => e = .returned (.float .f64 x) ∧ Below W.heap.size W w' from by
    cases hc : tpB r k n i j
    · have h0 : x = 0 := HX0.out (by rw [← htb]; exact hc)
      rw [h0]
      exact pat_no r k i j _ n cD W (by omega) hk hj hc
    · have h0 : x = l.getD (i * k + j).toNat 0 := HX1.out (by rw [← htb]; exact hc)
      rw [h0]
      exact pat_yes r k i j _ n cD l W h hl (by omega) hk hj hc)
  have HW := Lib.hid hW
  have Hln := Lib.hid (And.intro hl hn)
  have HI := Lib.hid (And.intro hk hj)
  have hn1 : ¬ (1000 : Int) < (n : Int) := by omega
  obtain ⟨wb, hwb⟩ : ∃ wb, whB r k n = wb := ⟨_, rfl⟩
  have HWb := Lib.hid hwb
  have HWT := Lib.hid (show wb = true from by rw [← hwb]; exact hwh)
  have hPK : ∃ PP9 K : Nat, r = PP9 ∧ k = K ∧ n = PP9 * K := by
    unfold whB at hwh
    simp only [Bool.and_eq_true, decide_eq_true_eq] at hwh
    refine ⟨r.toNat, k.toNat, by omega, by omega, ?_⟩
    have e1 : ((r.toNat : Nat) : Int) = r := by omega
    have e2 : ((k.toNat : Nat) : Int) = k := by omega
    have e3 : ((r.toNat * k.toNat : Nat) : Int) = (n : Int) := by rw [Int.natCast_mul, e1, e2]; exact hwh.2.symm
    exact_mod_cast e3.symm
  obtain ⟨PP9, K, hrP, hkK, hnK⟩ := hPK
  have hRP : R ≤ PP9 := by omega
  have hCK : C ≤ K := by omega
  have HnK := Lib.hid hnK
  have HkK := Lib.hid hkK
  have hob : o < 9223372036854775808 := by unfold I64 at hoI; omega
  have hc1 : ¬ r < (R : Int) := by omega
  have hc2 : ¬ k < (C : Int) := by omega
  have HGm := Lib.hid (fun W => rgood_any Am nm cm o R C L W (by omega) hoI (by unfold I64; omega) (by unfold I64; omega) hLI)
  rw [mat_right hL1 hRL hmr] at HGm
  have HUn := Lib.hid (fun gD cD gm c9 W (h1 : Row W (some ⟨gD, 0, none⟩) (f64s l)) (h2 : Own W gm lm) => show Calls Try.prog 14 #[pnl r k (some ⟨gD, 0, none⟩) n cD, mat (some ⟨gm, 0, none⟩) nm c9 o R C L] W fun e w' => e = .returned (.int .i64 0) ∧ ∃ l', Own w' gm l' ∧ Img lm o R C L (fun a b => l.getD (a * K + b) 0) l' ∧ Only gm W w' from by
    rw [hrP, hkK]
    exact punpack_ok PP9 K gD n cD l gm c9 nm lm o R C L W h1 hl (by omega) hnK (by unfold I64 at hk; omega) h2 hlm (by omega) hLI (by omega) (by omega) hob hL1 hRL hmr hRP hCK)
  have HAp := Lib.hid (fun W (hb : Below w.heap.size w W) => by
    have h := rapart_any Am cm lm (o : Int) (R : Int) (C : Int) (L : Int) W (hAm.below hb) (by omega)
    rw [hlm] at h
    exact h)
  obtain ⟨N9, hN9⟩ : ∃ N9, R * C = N9 := ⟨_, rfl⟩
  have hN9b : N9 ≤ 400 := by
    have h1 : R * C ≤ 20 * 20 := Nat.mul_le_mul hR hC
    omega
  have HN9 := Lib.hid hN9
  have HN9b := Lib.hid hN9b
  have HRC := Lib.hid (show R ≤ 20 ∧ C ≤ 20 ∧ R ≤ PP9 ∧ C ≤ K ∧ n ≤ 1000 from ⟨hR, hC, hRP, hCK, hn⟩)
  have HNw := Lib.hid (fun W => rnew_any R C N9 W hN9 (by omega) (by omega) (by omega))
  have HInt := Lib.hid (fun gt T1 l9 W (hb : Below w.heap.size w W) (h : Own W gt T1) (hT : T1.length = N9) (hd : ∀ a, a < R → ∀ b, b < C → T1.getD (a * C + b) 0 = l.getD (a * K + b) 0) (hi : Img lm o R C L (fun a b => l.getD (a * K + b) 0) l9) => show Calls Try.prog 20 #[mat Am nm cm o R C L, tbl R C gt N9 N9] W fun e w' => ∃ g c', e = .returned (.slice (some ⟨g, 0, none⟩) nm c') ∧ Own w' g l9 ∧ Below W.heap.size W w' from by
    refine (rinto_any Am nm cm lm o R C L gt N9 N9 T1 W (hAm.below hb) h.row hlm (by omega) hT hN9 (by omega) (by omega) (by omega) (fun _ => h.lt) hL1 hRL hmr).mono ?_
    rintro e w' ⟨g, c', l', e1, e2, e3, _, e4⟩
    have : l' = l9 := Img.uniq e3 hi hd
    subst this
    exact ⟨g, c', e1, e2, e4⟩)
  have HAll := Lib.hid (fun gm c9 gi ci l9 W (hi : Img lm o R C L (fun a b => l.getD (a * K + b) 0) l9) (h1 : Own W gm l9) (h2 : Own W gi l9) => by
    have hll : l9.length = nm := hi.1.trans hlm
    have hw9 : Wds l9 := wds_img9 hWm hi (fun a _ b _ => getD_wdr hW _)
    have h := rall_any (some ⟨gm, 0, none⟩) (some ⟨gi, 0, none⟩) c9 ci l9 l9 W hw9 hw9 h1.row h2.row (by omega) (Alike.refl _)
    rw [hll] at h
    exact h)
  clear hA hW hl hn hk hj hr hG htb hx hAm hWm hlm hnm hoI hLI hR hC hL1 hRL hmr hwh hf hob hwb hnK hRP hCK hN9 hN9b hrP hkK
  unfold mat pnl tbl at *
  go_enter Try.func4, Try.ntmps4
  have Hm0 := Lib.hid (Blk.new w 24 #[.slice Am nm cm, .int .i64 (o : Int), .int .i64 (R : Int), .int .i64 (C : Int), .int .i64 (L : Int)])
  have HB0 := Lib.hid ((Below.refl w.heap.size w).alloc (Nat.le_refl _) (.cells #[.slice Am nm cm, .int .i64 (o : Int), .int .i64 (R : Int), .int .i64 (C : Int), .int .i64 (L : Int)] 24))
  obtain ⟨m0, m1, m2, m3, m4⟩ := cells5 Hm0.out
  go_wp2_with fail
  refine (awake12_any _).mono ?_
  rintro e w1 ⟨rfl, hb⟩
  have Hm1 := Lib.hid (Hm0.out.nxt hb)
  have HB1 := Lib.hid (below_nx HB0.out hb)
  clear hb
  clear m0 m1 m2 m3 m4
  obtain ⟨m0, m1, m2, m3, m4⟩ := cells5 Hm1.out
  go_wp2_with fail
  refine (HGr.out _).mono ?_
  rintro e w2 ⟨rfl, hb⟩
  have Hm2 := Lib.hid (Hm1.out.nxt hb)
  have HB2 := Lib.hid (below_nx HB1.out hb)
  clear hb
  clear m0 m1 m2 m3 m4
  obtain ⟨m0, m1, m2, m3, m4⟩ := cells5 Hm2.out
  go_wp2_with fail
  refine (HCp.out _ HB2.out).mono ?_
  rintro e w3 ⟨gD, cD, rfl, hoD, hb⟩
  have HoD := Lib.hid hoD
  clear hoD
  have Hm3 := Lib.hid (Hm2.out.nxt hb)
  have HB3 := Lib.hid (below_nx HB2.out hb)
  clear hb
  clear m0 m1 m2 m3 m4
  obtain ⟨m0, m1, m2, m3, m4⟩ := cells5 Hm3.out
  have Hd3 := HoD
  have hb9 : Below w3.heap.size w3 (w3.alloc (.cells #[.int .i64 r, .int .i64 k, .slice (some ⟨gD, 0, none⟩) n cD] 28)) := below_one
  have Hm4 := Lib.hid (Hm3.out.nxt hb9)
  have Hd4 := Lib.hid (Hd3.out.nxt hb9)
  have HB4 := Lib.hid (below_nx HB3.out hb9)
  have Hp4 := Lib.hid (Blk.new w3 28 #[.int .i64 r, .int .i64 k, .slice (some ⟨gD, 0, none⟩) n cD])
  clear hb9
  clear m0 m1 m2 m3 m4
  obtain ⟨m0, m1, m2, m3, m4⟩ := cells5 Hm4.out
  obtain ⟨p0, p1, p2⟩ := cells3v Hp4.out
  go_wp2_with fail
  refine (HAt.out gD cD _ Hd4.out.row).mono ?_
  rintro e w4 ⟨rfl, hb⟩
  have Hm5 := Lib.hid (Hm4.out.nxt hb)
  have Hp5 := Lib.hid (Hp4.out.nxt hb)
  have Hd5 := Lib.hid (Hd4.out.nxt hb)
  have HB5 := Lib.hid (below_nx HB4.out hb)
  clear hb
  clear m0 m1 m2 m3 m4 p0 p1 p2
  obtain ⟨m0, m1, m2, m3, m4⟩ := cells5 Hm5.out
  obtain ⟨p0, p1, p2⟩ := cells3v Hp5.out
  have HA4 := Lib.hid (HA.out.below HB5.out)
  go_upto_block 99 with (with_reducible refine cut_two7 [15, 42, 43, 44, 45, 46, 47, 48, 49, 50, 51, 52, 53, 54, 55, 56, 57, 58, 59, 60, 61, 62, 63, 64, 65, 66, 67, 68, 69, 70, 71, 72, 73] (fun s wx => s 15 = .bool tb ∧ wx = w4) ?first ?rest)
  case first =>
    refine stop_in ?_
    intro K hK
    by_cases h1 : 0 ≤ i
    · by_cases h2 : 0 ≤ j
      · by_cases h3 : i < r
        · by_cases h4 : j < k
          · by_cases h5 : j < (n : Int)
            · obtain ⟨Z, z1, z2, z3, ⟨z4, z5⟩, ⟨z6, z7⟩, z8, z9⟩ := q_facts (n := n) (j := j) (k := k) (by have := Hln.out; omega) (by omega) h2 h5
              have hpr : prB n i j k = decide (i ≤ Z) := by unfold prB; rw [z1, show decide (j < (n : Int)) = true from decide_eq_true h5, Bool.true_and]
              by_cases h6 : i ≤ Z
              · have htf : tb = true := by rw [← HTb.out]; exact tpB_yes h1 h2 h3 h4 (by rw [hpr]; exact decide_eq_true h6)
                have d6 : decide (i ≤ Z) = true := decide_eq_true h6
                clear hpr z1
                go_wp2_with fail
                exact metR_mk (by kernel_rfl) ⟨by first | rfl | simp [d6, htf] | simp_all, rfl⟩
              · have hno : tpB r k n i j = false := tpB_no (fun h => by rw [hpr] at h; exact h6 (of_decide_eq_true h.2.2.2.2))
                have htf : tb = false := by rw [← HTb.out]; exact hno
                have d6 : decide (i ≤ Z) = false := decide_eq_false h6
                clear hno hpr z1
                go_wp2_with fail
                exact metR_mk (by kernel_rfl) ⟨rfl, rfl⟩
            · have hpr : prB n i j k = false := by unfold prB; rw [show decide (j < (n : Int)) = false from decide_eq_false h5, Bool.false_and]
              have hno : tpB r k n i j = false := tpB_no (fun h => by rw [hpr] at h; exact absurd h.2.2.2.2 Bool.false_ne_true)
              have htf : tb = false := by rw [← HTb.out]; exact hno
              clear hno
              go_wp2_with fail
              exact metR_mk (by kernel_rfl) ⟨rfl, rfl⟩
          ·
            have hno : tpB r k n i j = false := tpB_no (fun h => h4 h.2.2.2.1)
            have htf : tb = false := by rw [← HTb.out]; exact hno
            clear hno
            go_wp2_with fail
            exact metR_mk (by kernel_rfl) ⟨rfl, rfl⟩
        ·
          have hno : tpB r k n i j = false := tpB_no (fun h => h3 h.2.2.1)
          have htf : tb = false := by rw [← HTb.out]; exact hno
          clear hno
          go_wp2_with fail
          exact metR_mk (by kernel_rfl) ⟨rfl, rfl⟩
      ·
        have hno : tpB r k n i j = false := tpB_no (fun h => h2 h.2.1)
        have htf : tb = false := by rw [← HTb.out]; exact hno
        clear hno
        go_wp2_with fail
        exact metR_mk (by kernel_rfl) ⟨rfl, rfl⟩
    ·
      have hno : tpB r k n i j = false := tpB_no (fun h => h1 h.1)
      have htf : tb = false := by rw [← HTb.out]; exact hno
      clear hno
      go_wp2_with fail
      exact metR_mk (by kernel_rfl) ⟨rfl, rfl⟩
  case rest =>
  refine stop_in ?_
  intro s w' hr
  obtain ⟨hs, hw⟩ := hr
  have hw2 := hw.symm
  subst hw2
  simp [setAll, hs]
  clear hs
  go_upto_region 10 with fail
  go_cut [95] (fun c9 wx => c9 = .bool false ∧ wx = w4)
  case first =>
    cases tb
    · have hq0 : (FloatKind.f64.format.order x 0 == some .eq) = true := by rw [HX0.out rfl]; exact exE_r
      go_wp2_with fail
      go_meet
      exact ⟨congrArg Value.bool (by rw [bne, hq0]; rfl), rfl⟩
    · have hx := HX1.out rfl
      have htp := HTb.out
      unfold tpB at htp
      simp only [Bool.and_eq_true, decide_eq_true_eq] at htp
      obtain ⟨⟨⟨⟨q1, q2⟩, q3⟩, q4⟩, q5⟩ := htp
      have hk := HI.out.1
      have hln := Hln.out
      have hm : 0 ≤ i * k := Int.mul_nonneg q1 (by omega)
      obtain ⟨p, hp⟩ : ∃ p : Nat, i * k + j = (p : Int) := ⟨(i * k + j).toNat, by omega⟩
      have hpn : p < l.length := by omega
      obtain ⟨b, o9, hAe, hblt, hcell0⟩ := HA4.out.at_ (f64s_get l p hpn)
      have e0 : (i * k + j).toNat = p := by omega
      have e1 : IntKind.i64.wrap (i * k) = i * k := wrapi (by omega) (by omega)
      have e2 : IntKind.i64.wrap (i * k + j) = (p : Int) := by rw [hp]; exact wrapi (by omega) (by omega)
      have hpn2 : (p : Int) < (n : Int) := by omega
      have e3 : l.getD p 0 = l[p] := by rw [List.getD_eq_getElem?_getD, List.getElem?_eq_getElem hpn]; rfl
      rw [e0, e3] at hx
      rw [← hx] at hcell0
      have hxw : x < 18446744073709551616 := by rw [hx]; exact HW.out.at_ p hpn
      subst hAe
      clear hx e0 e3 hpn hm hk hln q1 q2 q3 q4 q5 hblt hp
      go_wp2_with fail
      refine (rsame_v x x _ hxw hxw).mono ?_
      rw [sameB_refl]
      rintro e ws ⟨rfl, rfl⟩
      go_wp2_with fail
      go_meet
      exact ⟨rfl, rfl⟩
  case rest =>
  obtain ⟨rfl, hw9⟩ := hcut
  have hw8 := hw9.symm
  subst hw8
  go_wp2_with fail
  refine (HAp.out _ HB5.out).mono ?_
  rintro e w5 ⟨gm, cm9, rfl, hom, hgm, _, _, hb⟩
  have HgW := Lib.hid (show w.heap.size ≤ gm from Nat.le_trans HB5.out.size hgm)
  have Hgm := Lib.hid (show gD ≠ gm from by have := Hd5.out.lt; omega)
  have Hbx := Lib.hid (show w.heap.size ≠ gm ∧ w3.heap.size ≠ gm from by have h1 := Hm5.out.lt; have h2 := Hp5.out.lt; omega)
  have Hom := Lib.hid hom
  clear hom hgm
  have Hm6 := Lib.hid (Hm5.out.nxt hb)
  have Hp6 := Lib.hid (Hp5.out.nxt hb)
  have Hd6 := Lib.hid (Hd5.out.nxt hb)
  have HB6 := Lib.hid (below_nx HB5.out hb)
  clear hb
  clear m0 m1 m2 m3 m4 p0 p1 p2
  obtain ⟨m0, m1, m2, m3, m4⟩ := cells5 Hm6.out
  obtain ⟨p0, p1, p2⟩ := cells3v Hp6.out
  have Hn6 := Hom
  have hb9 : Below w5.heap.size w5 (w5.alloc (.cells #[.slice (some ⟨gm, 0, none⟩) nm cm9, .int .i64 (o : Int), .int .i64 (R : Int), .int .i64 (C : Int), .int .i64 (L : Int)] 24)) := below_one
  have Hm7 := Lib.hid (Hm6.out.nxt hb9)
  have Hp7 := Lib.hid (Hp6.out.nxt hb9)
  have Hd7 := Lib.hid (Hd6.out.nxt hb9)
  have Hn7 := Lib.hid (Hn6.out.nxt hb9)
  have HB7 := Lib.hid (below_nx HB6.out hb9)
  have Hq7 := Lib.hid (Blk.new w5 24 #[.slice (some ⟨gm, 0, none⟩) nm cm9, .int .i64 (o : Int), .int .i64 (R : Int), .int .i64 (C : Int), .int .i64 (L : Int)])
  clear hb9
  clear m0 m1 m2 m3 m4 p0 p1 p2
  obtain ⟨m0, m1, m2, m3, m4⟩ := cells5 Hm7.out
  obtain ⟨p0, p1, p2⟩ := cells3v Hp7.out
  obtain ⟨q0, q1, q2, q3, q4⟩ := cells5 Hq7.out
  have Hq8 := Lib.hid (show w5.heap.size ≠ gm from by have := Hom.out.lt; omega)
  go_wp2_with fail
  refine (HUn.out gD cD gm cm9 _ Hd7.out.row Hn7.out).mono ?_
  rintro e w6 ⟨rfl, l9, ho9, hi9, hon⟩
  have Hi9 := Lib.hid hi9
  have Hn8 := Lib.hid ho9
  have Hd8 := Lib.hid (Hd7.out.only hon Hgm.out)
  have Hm8 := Lib.hid (hon.blk Hbx.out.1 Hm7.out)
  have Hp8 := Lib.hid (hon.blk Hbx.out.2 Hp7.out)
  have Hq8 := Lib.hid (hon.blk Hq8.out Hq7.out)
  have HB8 := Lib.hid (below_onlr HB7.out hon HgW.out HB7.out.size)
  clear ho9 hi9 hon
  clear m0 m1 m2 m3 m4 p0 p1 p2 q0 q1 q2 q3 q4
  obtain ⟨m0, m1, m2, m3, m4⟩ := cells5 Hm8.out
  obtain ⟨p0, p1, p2⟩ := cells3v Hp8.out
  obtain ⟨q0, q1, q2, q3, q4⟩ := cells5 Hq8.out
  go_upto_block 99 with (with_reducible refine cut_two14 [18, 101, 102, 103, 104, 105, 106, 107, 108, 109, 110, 111, 112, 113, 114, 115, 116, 117, 118, 119, 120, 121, 122, 123, 124, 125, 126, 127, 128, 129, 130, 131, 132] (fun s wx => s 18 = .bool wb ∧ wx = w6) ?first ?rest)
  case first =>
    refine stop_in ?_
    intro K hK
    by_cases h1 : 0 ≤ r
    · by_cases h2 : 0 ≤ k
      · obtain ⟨k9, hk9⟩ : ∃ k9 : Nat, k = k9 := ⟨k.toNat, by omega⟩
        subst hk9
        by_cases h3 : r = 0
        · subst h3
          by_cases h4 : n = 0
          · have hwb : wb = true := by rw [← HWb.out]; unfold whB; rw [h4]; simp
            have h5 : ((n : Int) == 0) = true := by rw [h4]; rfl
            clear h4
            go_wp2_with fail
            exact metR_mk (by kernel_rfl) ⟨by first | rfl | simp [hwb] | simp_all, rfl⟩
          · have hwb : wb = false := by rw [← HWb.out]; unfold whB; simp; omega
            have h5 : ((n : Int) == 0) = false := by simp; omega
            go_wp2_with fail
            exact metR_mk (by kernel_rfl) ⟨by first | rfl | simp [hwb] | simp_all, rfl⟩
        · have h3b : (r == 0) = false := by simp; omega
          by_cases h4 : k9 = 0
          · subst h4
            by_cases h5 : n = 0
            · have hwb : wb = true := by rw [← HWb.out]; unfold whB; rw [h5]; simp; omega
              have h6 : ((n : Int) == 0) = true := by rw [h5]; rfl
              clear h5
              go_wp2_with fail
              exact metR_mk (by kernel_rfl) ⟨by first | rfl | simp [hwb] | simp_all, rfl⟩
            · have hwb : wb = false := by rw [← HWb.out]; unfold whB; simp; omega
              have h6 : ((n : Int) == 0) = false := by simp; omega
              go_wp2_with fail
              exact metR_mk (by kernel_rfl) ⟨by first | rfl | simp [hwb] | simp_all, rfl⟩
          · obtain ⟨q, m9, hq, hm9, f1, f2, ⟨f3, f4, f5, f6⟩, f7, f8⟩ := wh_facts (n := n) (k := k9) (by omega) (by have := Hln.out; omega)
            have hwd : wb = (decide (q = 0) && ((m9 : Int) == r)) := by rw [← HWb.out, whB_div h1 (by omega), ← hq, ← hm9]
            by_cases h5 : q = 0
            · subst h5
              cases hb9 : ((m9 : Int) == r)
              · have hwb : wb = false := by rw [hwd, hb9]; rfl
                clear hq hm9 hwd
                go_wp2_with fail
                exact metR_mk (by kernel_rfl) ⟨by first | rfl | simp [hwb] | simp_all, rfl⟩
              · have hwb : wb = true := by rw [hwd, hb9]; rfl
                clear hq hm9 hwd
                go_wp2_with fail
                exact metR_mk (by kernel_rfl) ⟨by first | rfl | simp [hwb] | simp_all, rfl⟩
            · have hwb : wb = false := by rw [hwd, show decide (q = 0) = false from decide_eq_false h5, Bool.false_and]
              have h6 : ((q : Int) == 0) = false := by simp; omega
              clear hq hm9 hwd
              go_wp2_with fail
              exact metR_mk (by kernel_rfl) ⟨by first | rfl | simp [hwb] | simp_all, rfl⟩
      · have hwb : wb = false := by rw [← HWb.out]; unfold whB; rw [show decide (0 ≤ k) = false from decide_eq_false h2, Bool.and_false]; rfl
        go_wp2_with fail
        exact metR_mk (by kernel_rfl) ⟨by first | rfl | simp [hwb] | simp_all, rfl⟩
    · have hwb : wb = false := by rw [← HWb.out]; unfold whB; rw [show decide (0 ≤ r) = false from decide_eq_false h1]; rfl
      go_wp2_with fail
      exact metR_mk (by kernel_rfl) ⟨by first | rfl | simp [hwb] | simp_all, rfl⟩
  case rest =>
  refine stop_in ?_
  intro s w' hr
  obtain ⟨hs, hw⟩ := hr
  have hw2 := hw.symm
  subst hw2
  have hwt := HWT.out
  subst hwt
  simp [setAll, hs]
  clear hs
  go_upto_block 99 with (with_reducible refine cut_two19 [19, 133, 134, 135, 136, 137, 138, 139, 140, 141, 142, 143, 144, 145, 146, 147, 148, 149] (fun s wx => s 19 = .int .i64 0 ∧ Below w6.heap.size w6 wx) ?first ?rest)
  case first =>
    refine stop_in ?_
    intro K hK
    have hE := Lib.hid (show (0 : Int) = 0 from rfl)
    go_wp2_with fail
    refine (HGm.out _).mono ?_
    rintro e w7 ⟨rfl, hb⟩
    have Hm9 := Lib.hid (Hm8.out.nxt hb)
    have Hb9 := Lib.hid hb
    clear hb
    obtain ⟨y0, y1, y2, y3, y4⟩ := cells5 Hm9.out
    go_wp2_with fail
    exact metR_mk (by kernel_rfl) ⟨by first | rfl | (rw [hE.out]; rfl), Hb9.out⟩
  case rest =>
  refine stop_in ?_
  intro s w7 hr
  obtain ⟨hs, hb⟩ := hr
  simp [setAll, hs]
  clear hs
  have Hm9 := Lib.hid (Hm8.out.nxt hb)
  have Hp9 := Lib.hid (Hp8.out.nxt hb)
  have Hq9 := Lib.hid (Hq8.out.nxt hb)
  have Hd9 := Lib.hid (Hd8.out.nxt hb)
  have Hn9 := Lib.hid (Hn8.out.nxt hb)
  have HB9 := Lib.hid (below_nx HB8.out hb)
  clear hb
  clear m0 m1 m2 m3 m4 p0 p1 p2 q0 q1 q2 q3 q4
  obtain ⟨m0, m1, m2, m3, m4⟩ := cells5 Hm9.out
  obtain ⟨p0, p1, p2⟩ := cells3v Hp9.out
  obtain ⟨q0, q1, q2, q3, q4⟩ := cells5 Hq9.out
  go_wp2_with fail
  refine (HNw.out _).mono ?_
  rintro e w8 ⟨gt, rfl, hbt, hgt, hb⟩
  have Hu0 := Lib.hid (owb9 hbt)
  have Hgt := Lib.hid (show w7.heap.size ≤ gt from hgt)
  clear hbt hgt
  have Hm10 := Lib.hid (Hm9.out.nxt hb)
  have Hp10 := Lib.hid (Hp9.out.nxt hb)
  have Hq10 := Lib.hid (Hq9.out.nxt hb)
  have Hd10 := Lib.hid (Hd9.out.nxt hb)
  have Hn10 := Lib.hid (Hn9.out.nxt hb)
  have HB10 := Lib.hid (below_nx HB9.out hb)
  clear hb
  clear m0 m1 m2 m3 m4 p0 p1 p2 q0 q1 q2 q3 q4
  obtain ⟨m0, m1, m2, m3, m4⟩ := cells5 Hm10.out
  obtain ⟨p0, p1, p2⟩ := cells3v Hp10.out
  obtain ⟨q0, q1, q2, q3, q4⟩ := cells5 Hq10.out
  have Hu10 := Hu0
  have hb9 : Below w8.heap.size w8 (w8.alloc (.cells #[.int .i64 (R : Int), .int .i64 (C : Int), .slice (some ⟨gt, 0, none⟩) N9 N9] 35)) := below_one
  have Hm11 := Lib.hid (Hm10.out.nxt hb9)
  have Hp11 := Lib.hid (Hp10.out.nxt hb9)
  have Hq11 := Lib.hid (Hq10.out.nxt hb9)
  have Hd11 := Lib.hid (Hd10.out.nxt hb9)
  have Hn11 := Lib.hid (Hn10.out.nxt hb9)
  have Hu11 := Lib.hid (Hu10.out.nxt hb9)
  have HB11 := Lib.hid (below_nx HB10.out hb9)
  have Ht11 := Lib.hid (Blk.new w8 35 #[.int .i64 (R : Int), .int .i64 (C : Int), .slice (some ⟨gt, 0, none⟩) N9 N9])
  clear hb9
  clear m0 m1 m2 m3 m4 p0 p1 p2 q0 q1 q2 q3 q4
  obtain ⟨m0, m1, m2, m3, m4⟩ := cells5 Hm11.out
  obtain ⟨p0, p1, p2⟩ := cells3v Hp11.out
  obtain ⟨q0, q1, q2, q3, q4⟩ := cells5 Hq11.out
  obtain ⟨t0, t1, t2⟩ := cells3v Ht11.out
  have Hne := Lib.hid (show w.heap.size ≠ gt ∧ w5.heap.size ≠ gt ∧ w8.heap.size ≠ gt ∧ gm ≠ gt ∧ w.heap.size ≤ gt from by
    have h1 := Hm9.out.lt; have h2 := Hq9.out.lt; have h3 := Hu0.out.lt; have h4 := Hn9.out.lt; have h5 := Hgt.out; have h6 := HB9.out.size; omega)
  go_wp2_with fail
  clear m0 m1 m2 m3 m4 p0 p1 p2 q0 q1 q2 q3 q4 t0 t1 t2
  generalize (w8.alloc (.cells #[.int .i64 (R : Int), .int .i64 (C : Int), .slice (some ⟨gt, 0, none⟩) N9 N9] 35)) = wL at *
  go_loopw [21] (fun a wr => ∃ (i1 : Nat) (T1 : List Nat), i1 ≤ R ∧ a = .int .i64 (i1 : Int) ∧ Own wr gt T1 ∧ Ptb N9 (fun a b => a * C + b) R C (fun a b v => v = l.getD (a * K + b) 0) i1 0 T1 ∧ Only gt wL wr) (fun a _ => R - (intOf a).toNat)
  case atStart => exact ⟨0, _, Nat.zero_le _, rfl, Hu11.out, Ptb.zero (by simp), Only.refl _ _⟩
  case round =>
    obtain ⟨i1, T1, hi1, rfl, ho, hp, hon⟩ := hrel
    have Hor := Lib.hid ho
    have HP1 := Lib.hid hp
    have HOn := Lib.hid hon
    clear ho hp hon
    have Hmr := Lib.hid (HOn.out.blk Hne.out.1 Hm11.out)
    have Hqr := Lib.hid (HOn.out.blk Hne.out.2.1 Hq11.out)
    have Htr := Lib.hid (HOn.out.blk Hne.out.2.2.1 Ht11.out)
    have HBr := Lib.hid (below_onlr HB11.out HOn.out Hne.out.2.2.2.2 HB11.out.size)
    obtain ⟨y0, y1, y2, y3, y4⟩ := cells5 Hmr.out
    by_cases hlt : i1 < R
    · have hic : (i1 : Int) < (R : Int) := by omega
      go_wp2_with fail
      clear y0 y1 y2 y3 y4 Hmr Hqr Htr HBr
      go_loopw [22] (fun a wr => ∃ (j1 : Nat) (T1 : List Nat), j1 ≤ C ∧ a = .int .i64 (j1 : Int) ∧ Own wr gt T1 ∧ Ptb N9 (fun a b => a * C + b) R C (fun a b v => v = l.getD (a * K + b) 0) i1 j1 T1 ∧ Only gt wL wr) (fun a _ => C - (intOf a).toNat)
      case atStart => exact ⟨0, T1, Nat.zero_le _, rfl, Hor.out, HP1.out, HOn.out⟩
      case round =>
        clear Hor HP1 HOn
        obtain ⟨j1, T1, hj1, rfl, ho, hp, hon⟩ := hrel
        have Hor := Lib.hid ho
        have HP1 := Lib.hid hp
        have HOn := Lib.hid hon
        clear ho hp hon
        have Hmr := Lib.hid (HOn.out.blk Hne.out.1 Hm11.out)
        have Hqr := Lib.hid (HOn.out.blk Hne.out.2.1 Hq11.out)
        have Htr := Lib.hid (HOn.out.blk Hne.out.2.2.1 Ht11.out)
        have HBr := Lib.hid (below_onlr HB11.out HOn.out Hne.out.2.2.2.2 HB11.out.size)
        obtain ⟨y0, y1, y2, y3, y4⟩ := cells5 Hmr.out
        by_cases hlj : j1 < C
        · have hjc : (j1 : Int) < (C : Int) := by omega
          have hRC := HRC.out
          have hPK : i1 * K + j1 < n := by have := tab_lt (r := PP9) (k := K) (i := i1) (j := j1) (by omega) (by omega); have := HnK.out; omega
          have hpl : i1 * K + j1 < l.length := by rw [Hln.out.1]; exact hPK
          obtain ⟨b9, x9, rfl, _, hcell0⟩ := (HA.out.below HBr.out).at_ (f64s_get l _ hpl)
          rw [← getD_of_lt hpl] at hcell0
          obtain ⟨v9, hv9⟩ : ∃ v9, l.getD (i1 * K + j1) 0 = v9 := ⟨_, rfl⟩
          rw [hv9] at hcell0
          have HP2 := Lib.hid (HP1.out.step (j := j1) (r := v9) (fun a ha b hb e => tab_injg hb hlj e) (show i1 * C + j1 < N9 by rw [← HN9.out]; exact tab_lt hlt hlj) hv9.symm)
          have HSet := Lib.hid (fun W (h : Own W gt T1) => rset_own (R : Int) (C : Int) gt N9 N9 T1 i1 j1 (i1 * C + j1) v9 W h HP1.out.1 (by rw [← HN9.out]; exact tab_lt hlt hlj) (by have := HN9b.out; omega) (by simp) (tab_facts HN9.out (by have := HN9b.out; omega) hlt hlj).2.1)
          obtain ⟨T2, hT2⟩ : ∃ T2, T1.set (i1 * C + j1) v9 = T2 := ⟨_, rfl⟩
          rw [hT2] at HSet
          replace HP2 := Lib.hid (show Ptb N9 (fun a b => a * C + b) R C (fun a b v => v = l.getD (a * K + b) 0) i1 (j1 + 1) T2 by rw [← hT2]; exact HP2.out)
          have hn9 := Hln.out.2
          obtain ⟨IA, hIA⟩ : ∃ IA, i1 * K = IA := ⟨_, rfl⟩
          obtain ⟨PP, hPP⟩ : ∃ PP, IA + j1 = PP := ⟨_, rfl⟩
          rw [hIA, hPP] at hcell0 hPK
          have bPP := hPK
          have HCe := Lib.hid hcell0
          have hj2 : j1 + 1 ≤ 1048576 := by omega
          have hPb : PP < 1048576 := by omega
          have hIb : IA < 1048576 := by omega
          have hPe : (IA : Int) + (j1 : Int) = (PP : Int) := by omega
          have hIe : (i1 : Int) * k = (IA : Int) := by rw [HkK.out, ← hIA]; simp
          obtain ⟨hm1, hm2⟩ := fl_r hIe hIb
          obtain ⟨ha1, ha2⟩ := fl_r hPe hPb
          clear hPb hIb hPe hIe
          clear hcell0 hpl hv9 hT2 hIA hPP hRC hn9 hPK
          go_wp2_with fail
          clear y0 y1 y2 y3 y4
          refine wp_region_inv [187, 188, 189, 190, 191, 192, 193, 194, 195, 196, 197, 198] (fun d s W => (d 0 = true → s 187 = .agg #[.int .i64 (R : Int), .int .i64 (C : Int), .slice (some ⟨gt, 0, none⟩) N9 N9]) ∧ (d 1 = true → s 188 = .int .i64 (i1 : Int)) ∧ (d 2 = true → s 189 = .int .i64 (j1 : Int)) ∧ (d 3 = true → s 190 = .slice (some ⟨b9, x9, none⟩) n c) ∧ (d 4 = true → s 191 = .int .i64 (i1 : Int)) ∧ (d 5 = true → s 192 = .int .i64 k) ∧ (d 6 = true → s 193 = .int .i64 (IA : Int)) ∧ (d 7 = true → s 194 = .int .i64 (j1 : Int)) ∧ (d 8 = true → s 195 = .int .i64 (PP : Int)) ∧ (d 9 = true → s 196 = .pointer (some ⟨b9, x9 + PP, none⟩)) ∧ (d 10 = true → s 197 = .float .f64 v9) ∧ (d 6 = true → d 4 = true ∧ d 5 = true) ∧ (d 8 = true → d 4 = true ∧ d 5 = true ∧ d 6 = true ∧ d 7 = true) ∧ (d 9 = true → d 3 = true ∧ d 4 = true ∧ d 5 = true ∧ d 6 = true ∧ d 7 = true ∧ d 8 = true) ∧ (d 10 = true → d 3 = true ∧ d 4 = true ∧ d 5 = true ∧ d 6 = true ∧ d 7 = true ∧ d 8 = true ∧ d 9 = true) ∧ (d 11 = true → d 0 = true ∧ d 1 = true ∧ d 2 = true ∧ d 3 = true ∧ d 4 = true ∧ d 5 = true ∧ d 6 = true ∧ d 7 = true ∧ d 8 = true ∧ d 9 = true ∧ d 10 = true) ∧ (d 11 = false → Below wr.heap.size wr W) ∧ (d 11 = true → Own W gt T2 ∧ Only gt wr W))
            rfl (by kernel_rfl) ?_ ?_ ?_
          · exact ⟨by simp, by simp, by simp, by simp, by simp, by simp, by simp, by simp, by simp, by simp, by simp, by simp, by simp, by simp, by simp, by simp, ⟨fun _ => (Below.refl _ _).drew, fun e => by simp at e⟩⟩
          · refine ⟨?_, ?_, ?_, ?_, ?_, ?_, ?_, ?_, ?_, ?_, ?_, ?_, trivial⟩
            all_goals
              intro d s W hJ hfr hd hdep
              simp only [List.mem_cons, forall_eq_or_imp, List.not_mem_nil, false_implies, implies_true, and_true, Region.binds] at hdep
              have f1 := hfr 1 (by decide)
              have f2 := hfr 2 (by decide)
              have f20 := hfr 20 (by decide)
              have f21 := hfr 21 (by decide)
              have f22 := hfr 22 (by decide)
              simp at f1 f2 f20 f21 f22 hdep
              obtain ⟨h0, h1, h2, h3, h4, h5, h6, h7, h8, h9, h10, x0, x1, x2, x3, x4, hT⟩ := hJ
            · have hl : d 11 = false := by
                cases h : d 11
                · rfl
                · have := x4 h; simp [hd] at this
              rw [hl] at hT
              unfold OpSteps
              obtain ⟨p0, p1, p2⟩ := cells3v (Htr.out.below (hT.1 rfl) Htr.out.lt)
              simp [go_sem, evS, f20, p0, p1, p2]
              exact ⟨fun _ => by simp [sput], fun h => by simpa [sput] using h1 (by simpa [did] using h), fun h => by simpa [sput] using h2 (by simpa [did] using h), fun h => by simpa [sput] using h3 (by simpa [did] using h), fun h => by simpa [sput] using h4 (by simpa [did] using h), fun h => by simpa [sput] using h5 (by simpa [did] using h), fun h => by simpa [sput] using h6 (by simpa [did] using h), fun h => by simpa [sput] using h7 (by simpa [did] using h), fun h => by simpa [sput] using h8 (by simpa [did] using h), fun h => by simpa [sput] using h9 (by simpa [did] using h), fun h => by simpa [sput] using h10 (by simpa [did] using h), fun h => by have := x0 (by simpa [did] using h); simp [did, this], fun h => by have := x1 (by simpa [did] using h); simp [did, this], fun h => by have := x2 (by simpa [did] using h); simp [did, this], fun h => by have := x3 (by simpa [did] using h); simp [did, this], fun h => by have := x4 (by simpa [did] using h); simp [did, this], by simpa [did, sput, hl] using hT⟩
            · have hl : d 11 = false := by
                cases h : d 11
                · rfl
                · have := x4 h; simp [hd] at this
              rw [hl] at hT
              unfold OpSteps
              simp [go_sem, evS, f21]
              exact ⟨fun h => by simpa [sput] using h0 (by simpa [did] using h), fun _ => by simp [sput], fun h => by simpa [sput] using h2 (by simpa [did] using h), fun h => by simpa [sput] using h3 (by simpa [did] using h), fun h => by simpa [sput] using h4 (by simpa [did] using h), fun h => by simpa [sput] using h5 (by simpa [did] using h), fun h => by simpa [sput] using h6 (by simpa [did] using h), fun h => by simpa [sput] using h7 (by simpa [did] using h), fun h => by simpa [sput] using h8 (by simpa [did] using h), fun h => by simpa [sput] using h9 (by simpa [did] using h), fun h => by simpa [sput] using h10 (by simpa [did] using h), fun h => by have := x0 (by simpa [did] using h); simp [did, this], fun h => by have := x1 (by simpa [did] using h); simp [did, this], fun h => by have := x2 (by simpa [did] using h); simp [did, this], fun h => by have := x3 (by simpa [did] using h); simp [did, this], fun h => by have := x4 (by simpa [did] using h); simp [did, this], by simpa [did, sput, hl] using hT⟩
            · have hl : d 11 = false := by
                cases h : d 11
                · rfl
                · have := x4 h; simp [hd] at this
              rw [hl] at hT
              unfold OpSteps
              simp [go_sem, evS, f22]
              exact ⟨fun h => by simpa [sput] using h0 (by simpa [did] using h), fun h => by simpa [sput] using h1 (by simpa [did] using h), fun _ => by simp [sput], fun h => by simpa [sput] using h3 (by simpa [did] using h), fun h => by simpa [sput] using h4 (by simpa [did] using h), fun h => by simpa [sput] using h5 (by simpa [did] using h), fun h => by simpa [sput] using h6 (by simpa [did] using h), fun h => by simpa [sput] using h7 (by simpa [did] using h), fun h => by simpa [sput] using h8 (by simpa [did] using h), fun h => by simpa [sput] using h9 (by simpa [did] using h), fun h => by simpa [sput] using h10 (by simpa [did] using h), fun h => by have := x0 (by simpa [did] using h); simp [did, this], fun h => by have := x1 (by simpa [did] using h); simp [did, this], fun h => by have := x2 (by simpa [did] using h); simp [did, this], fun h => by have := x3 (by simpa [did] using h); simp [did, this], fun h => by have := x4 (by simpa [did] using h); simp [did, this], by simpa [did, sput, hl] using hT⟩
            · have hl : d 11 = false := by
                cases h : d 11
                · rfl
                · have := x4 h; simp [hd] at this
              rw [hl] at hT
              unfold OpSteps
              simp [go_sem, evS, f2]
              exact ⟨fun h => by simpa [sput] using h0 (by simpa [did] using h), fun h => by simpa [sput] using h1 (by simpa [did] using h), fun h => by simpa [sput] using h2 (by simpa [did] using h), fun _ => by simp [sput], fun h => by simpa [sput] using h4 (by simpa [did] using h), fun h => by simpa [sput] using h5 (by simpa [did] using h), fun h => by simpa [sput] using h6 (by simpa [did] using h), fun h => by simpa [sput] using h7 (by simpa [did] using h), fun h => by simpa [sput] using h8 (by simpa [did] using h), fun h => by simpa [sput] using h9 (by simpa [did] using h), fun h => by simpa [sput] using h10 (by simpa [did] using h), fun h => by have := x0 (by simpa [did] using h); simp [did, this], fun h => by have := x1 (by simpa [did] using h); simp [did, this], fun h => by have := x2 (by simpa [did] using h); simp [did, this], fun h => by have := x3 (by simpa [did] using h); simp [did, this], fun h => by have := x4 (by simpa [did] using h); simp [did, this], by simpa [did, sput, hl] using hT⟩
            · have hl : d 11 = false := by
                cases h : d 11
                · rfl
                · have := x4 h; simp [hd] at this
              rw [hl] at hT
              unfold OpSteps
              simp [go_sem, evS, f21]
              exact ⟨fun h => by simpa [sput] using h0 (by simpa [did] using h), fun h => by simpa [sput] using h1 (by simpa [did] using h), fun h => by simpa [sput] using h2 (by simpa [did] using h), fun h => by simpa [sput] using h3 (by simpa [did] using h), fun _ => by simp [sput], fun h => by simpa [sput] using h5 (by simpa [did] using h), fun h => by simpa [sput] using h6 (by simpa [did] using h), fun h => by simpa [sput] using h7 (by simpa [did] using h), fun h => by simpa [sput] using h8 (by simpa [did] using h), fun h => by simpa [sput] using h9 (by simpa [did] using h), fun h => by simpa [sput] using h10 (by simpa [did] using h), fun h => by have := x0 (by simpa [did] using h); simp [did, this], fun h => by have := x1 (by simpa [did] using h); simp [did, this], fun h => by have := x2 (by simpa [did] using h); simp [did, this], fun h => by have := x3 (by simpa [did] using h); simp [did, this], fun h => by have := x4 (by simpa [did] using h); simp [did, this], by simpa [did, sput, hl] using hT⟩
            · have hl : d 11 = false := by
                cases h : d 11
                · rfl
                · have := x4 h; simp [hd] at this
              rw [hl] at hT
              unfold OpSteps
              simp [go_sem, evS, f1]
              exact ⟨fun h => by simpa [sput] using h0 (by simpa [did] using h), fun h => by simpa [sput] using h1 (by simpa [did] using h), fun h => by simpa [sput] using h2 (by simpa [did] using h), fun h => by simpa [sput] using h3 (by simpa [did] using h), fun h => by simpa [sput] using h4 (by simpa [did] using h), fun _ => by simp [sput], fun h => by simpa [sput] using h6 (by simpa [did] using h), fun h => by simpa [sput] using h7 (by simpa [did] using h), fun h => by simpa [sput] using h8 (by simpa [did] using h), fun h => by simpa [sput] using h9 (by simpa [did] using h), fun h => by simpa [sput] using h10 (by simpa [did] using h), fun h => by have := x0 (by simpa [did] using h); simp [did, this], fun h => by have := x1 (by simpa [did] using h); simp [did, this], fun h => by have := x2 (by simpa [did] using h); simp [did, this], fun h => by have := x3 (by simpa [did] using h); simp [did, this], fun h => by have := x4 (by simpa [did] using h); simp [did, this], by simpa [did, sput, hl] using hT⟩
            · have hl : d 11 = false := by
                cases h : d 11
                · rfl
                · have := x4 h; simp [hd] at this
              rw [hl] at hT
              have g4 := h4 (by simp [hdep])
              have g5 := h5 (by simp [hdep])
              unfold OpSteps
              simp [go_sem, evS, g4, g5, hm1, hm2]
              exact ⟨fun h => by simpa [sput] using h0 (by simpa [did] using h), fun h => by simpa [sput] using h1 (by simpa [did] using h), fun h => by simpa [sput] using h2 (by simpa [did] using h), fun h => by simpa [sput] using h3 (by simpa [did] using h), fun h => by simpa [sput] using h4 (by simpa [did] using h), fun h => by simpa [sput] using h5 (by simpa [did] using h), fun _ => by simp [sput], fun h => by simpa [sput] using h7 (by simpa [did] using h), fun h => by simpa [sput] using h8 (by simpa [did] using h), fun h => by simpa [sput] using h9 (by simpa [did] using h), fun h => by simpa [sput] using h10 (by simpa [did] using h), fun _ => by simp [did, hdep], fun h => by have := x1 (by simpa [did] using h); simp [did, this], fun h => by have := x2 (by simpa [did] using h); simp [did, this], fun h => by have := x3 (by simpa [did] using h); simp [did, this], fun h => by have := x4 (by simpa [did] using h); simp [did, this], by simpa [did, sput, hl] using hT⟩
            · have hl : d 11 = false := by
                cases h : d 11
                · rfl
                · have := x4 h; simp [hd] at this
              rw [hl] at hT
              unfold OpSteps
              simp [go_sem, evS, f22]
              exact ⟨fun h => by simpa [sput] using h0 (by simpa [did] using h), fun h => by simpa [sput] using h1 (by simpa [did] using h), fun h => by simpa [sput] using h2 (by simpa [did] using h), fun h => by simpa [sput] using h3 (by simpa [did] using h), fun h => by simpa [sput] using h4 (by simpa [did] using h), fun h => by simpa [sput] using h5 (by simpa [did] using h), fun h => by simpa [sput] using h6 (by simpa [did] using h), fun _ => by simp [sput], fun h => by simpa [sput] using h8 (by simpa [did] using h), fun h => by simpa [sput] using h9 (by simpa [did] using h), fun h => by simpa [sput] using h10 (by simpa [did] using h), fun h => by have := x0 (by simpa [did] using h); simp [did, this], fun h => by have := x1 (by simpa [did] using h); simp [did, this], fun h => by have := x2 (by simpa [did] using h); simp [did, this], fun h => by have := x3 (by simpa [did] using h); simp [did, this], fun h => by have := x4 (by simpa [did] using h); simp [did, this], by simpa [did, sput, hl] using hT⟩
            · have hl : d 11 = false := by
                cases h : d 11
                · rfl
                · have := x4 h; simp [hd] at this
              rw [hl] at hT
              have g6 := h6 (by simp [hdep])
              have g7 := h7 (by simp [hdep])
              unfold OpSteps
              simp [go_sem, evS, g6, g7, ha1, ha2]
              exact ⟨fun h => by simpa [sput] using h0 (by simpa [did] using h), fun h => by simpa [sput] using h1 (by simpa [did] using h), fun h => by simpa [sput] using h2 (by simpa [did] using h), fun h => by simpa [sput] using h3 (by simpa [did] using h), fun h => by simpa [sput] using h4 (by simpa [did] using h), fun h => by simpa [sput] using h5 (by simpa [did] using h), fun h => by simpa [sput] using h6 (by simpa [did] using h), fun h => by simpa [sput] using h7 (by simpa [did] using h), fun _ => by simp [sput], fun h => by simpa [sput] using h9 (by simpa [did] using h), fun h => by simpa [sput] using h10 (by simpa [did] using h), fun h => by have := x0 (by simpa [did] using h); simp [did, this], fun _ => by have y6 := x0 (by simp [hdep]); simp [did, hdep, y6], fun h => by have := x2 (by simpa [did] using h); simp [did, this], fun h => by have := x3 (by simpa [did] using h); simp [did, this], fun h => by have := x4 (by simpa [did] using h); simp [did, this], by simpa [did, sput, hl] using hT⟩
            · have hl : d 11 = false := by
                cases h : d 11
                · rfl
                · have := x4 h; simp [hd] at this
              rw [hl] at hT
              have g3 := h3 (by simp [hdep])
              have g8 := h8 (by simp [hdep])
              unfold OpSteps
              simp [go_sem, evS, g3, g8, bPP]
              exact ⟨fun h => by simpa [sput] using h0 (by simpa [did] using h), fun h => by simpa [sput] using h1 (by simpa [did] using h), fun h => by simpa [sput] using h2 (by simpa [did] using h), fun h => by simpa [sput] using h3 (by simpa [did] using h), fun h => by simpa [sput] using h4 (by simpa [did] using h), fun h => by simpa [sput] using h5 (by simpa [did] using h), fun h => by simpa [sput] using h6 (by simpa [did] using h), fun h => by simpa [sput] using h7 (by simpa [did] using h), fun h => by simpa [sput] using h8 (by simpa [did] using h), fun _ => by simp [sput], fun h => by simpa [sput] using h10 (by simpa [did] using h), fun h => by have := x0 (by simpa [did] using h); simp [did, this], fun h => by have := x1 (by simpa [did] using h); simp [did, this], fun _ => by have y8 := x1 (by simp [hdep]); simp [did, hdep, y8], fun h => by have := x3 (by simpa [did] using h); simp [did, this], fun h => by have := x4 (by simpa [did] using h); simp [did, this], by simpa [did, sput, hl] using hT⟩
            · have hl : d 11 = false := by
                cases h : d 11
                · rfl
                · have := x4 h; simp [hd] at this
              rw [hl] at hT
              have g9 := h9 (by simp [hdep])
              unfold OpSteps
              have pc := cell_below HCe.out (hT.1 rfl)
              simp [go_sem, evS, g9, pc]
              exact ⟨fun h => by simpa [sput] using h0 (by simpa [did] using h), fun h => by simpa [sput] using h1 (by simpa [did] using h), fun h => by simpa [sput] using h2 (by simpa [did] using h), fun h => by simpa [sput] using h3 (by simpa [did] using h), fun h => by simpa [sput] using h4 (by simpa [did] using h), fun h => by simpa [sput] using h5 (by simpa [did] using h), fun h => by simpa [sput] using h6 (by simpa [did] using h), fun h => by simpa [sput] using h7 (by simpa [did] using h), fun h => by simpa [sput] using h8 (by simpa [did] using h), fun h => by simpa [sput] using h9 (by simpa [did] using h), fun _ => by simp [sput], fun h => by have := x0 (by simpa [did] using h); simp [did, this], fun h => by have := x1 (by simpa [did] using h); simp [did, this], fun h => by have := x2 (by simpa [did] using h); simp [did, this], fun _ => by have y9 := x2 (by simp [hdep]); simp [did, hdep, y9], fun h => by have := x4 (by simpa [did] using h); simp [did, this], by simpa [did, sput, hl] using hT⟩
            · have g0 := h0 (by simp [hdep])
              have g1 := h1 (by simp [hdep])
              have g2 := h2 (by simp [hdep])
              have g10 := h10 (by simp [hdep])
              unfold OpSteps
              simp [go_sem, evS, g0, g1, g2, g10]
              refine (HSet.out W (Hor.out.nxt (hT.1 hd))).mono ?_
              rintro e W' ⟨rfl, y1, y2⟩
              refine ⟨_, rfl, ?_⟩
              exact ⟨fun h => by simpa [sput] using h0 (by simpa [did] using h), fun h => by simpa [sput] using h1 (by simpa [did] using h), fun h => by simpa [sput] using h2 (by simpa [did] using h), fun h => by simpa [sput] using h3 (by simpa [did] using h), fun h => by simpa [sput] using h4 (by simpa [did] using h), fun h => by simpa [sput] using h5 (by simpa [did] using h), fun h => by simpa [sput] using h6 (by simpa [did] using h), fun h => by simpa [sput] using h7 (by simpa [did] using h), fun h => by simpa [sput] using h8 (by simpa [did] using h), fun h => by simpa [sput] using h9 (by simpa [did] using h), fun h => by simpa [sput] using h10 (by simpa [did] using h), fun h => by have := x0 (by simpa [did] using h); simp [did, this], fun h => by have := x1 (by simpa [did] using h); simp [did, this], fun h => by have := x2 (by simpa [did] using h); simp [did, this], fun h => by have := x3 (by simpa [did] using h); simp [did, this], fun _ => by have y10 := x3 (by simp [hdep]); simp [did, hdep, y10], ⟨fun h => by simp [did] at h, fun _ => ⟨y1, (Only.of_below (hT.1 hd)).trans y2⟩⟩⟩
          intro d s W hJ hd
          obtain ⟨h0, h1, h2, h3, h4, h5, h6, h7, h8, h9, h10, x0, x1, x2, x3, x4, hT⟩ := hJ
          have hA9 := hT.2 (hd 11 (by decide))
          clear h0 h1 h2 h3 h4 h5 h6 h7 h8 h9 h10 x0 x1 x2 x3 x4 hT hd hm1 hm2 ha1 ha2
          obtain ⟨ho2, hon2⟩ := hA9
          have HO2 := Lib.hid ho2
          have HN2 := Lib.hid (HOn.out.trans hon2)
          clear ho2 hon2
          simp [setAll]
          generalize s 187 = s187
          generalize s 188 = s188
          generalize s 189 = s189
          generalize s 190 = s190
          generalize s 191 = s191
          generalize s 192 = s192
          generalize s 193 = s193
          generalize s 194 = s194
          generalize s 195 = s195
          generalize s 196 = s196
          generalize s 197 = s197
          generalize s 198 = s198
          go_wp2_with fail
          go_roundw
          case rel => exact ⟨j1 + 1, T2, by omega, by go_num, HO2.out, HP2.out, HN2.out⟩
          case measure => simp [intOf]; omega
        · obtain rfl : j1 = C := by omega
          have hjc : ¬ (j1 : Int) < (j1 : Int) := by omega
          have hi2 : i1 + 1 ≤ 1048576 := by have := HRC.out; omega
          go_wp2_with fail
          go_roundw
          case rel => exact ⟨i1 + 1, T1, by omega, by go_num, Hor.out, HP1.out.next, HOn.out⟩
          case measure => simp [intOf]; omega
    · obtain rfl : R = i1 := by omega
      have hic : ¬ (R : Int) < (R : Int) := by omega
      have Hnr := Lib.hid (Hn11.out.only HOn.out Hne.out.2.2.2.1)
      have hdn := HP1.out.done
      have HIn := Lib.hid (fun W (hb : Below wr.heap.size wr W) => HInt.out gt T1 l9 W (HBr.out.trans (hb.mono HBr.out.size)) (Hor.out.nxt hb) HP1.out.1 hdn Hi9.out)
      have HAl := Lib.hid (fun gi ci W (hb : Below wr.heap.size wr W) (h : Own W gi l9) => HAll.out gm cm9 gi ci l9 W Hi9.out (Hnr.out.nxt hb) h)
      clear hdn
      go_wp2_with fail
      clear y0 y1 y2 y3 y4
      refine wp_region_invG [199, 200, 201, 202, 203, 204, 205, 206, 207, 12] (fun d s W => (d 0 = true → s 199 = .pointer (some ⟨w5.heap.size, 0, none⟩)) ∧ (d 1 = true → s 200 = .slice (some ⟨gm, 0, none⟩) nm cm9) ∧ (d 2 = true → s 201 = .agg #[.slice Am nm cm, .int .i64 (o : Int), .int .i64 (R : Int), .int .i64 (C : Int), .int .i64 (L : Int)]) ∧ (d 3 = true → s 202 = .agg #[.int .i64 (R : Int), .int .i64 (C : Int), .slice (some ⟨gt, 0, none⟩) N9 N9]) ∧ (d 4 = true → SlF W (s 203) nm l9) ∧ (d 5 = true → s 204 = .bool true) ∧ (d 6 = true → s 205 = .bool true) ∧ (d 7 = true → s 206 = .bool true) ∧ (d 8 = true → s 207 = .bool true) ∧ (d 9 = true → s 12 = .bool true) ∧ Below wr.heap.size wr W)
        rfl (by kernel_rfl) ?_ ?_ ?_
      · exact ⟨by simp, by simp, by simp, by simp, by simp, by simp, by simp, by simp, by simp, by simp, (Below.refl _ _).drew⟩
      · refine ⟨?_, ?_, ?_, ?_, ?_, ?_, ?_, ?_, ?_, ?_, trivial⟩
        all_goals
          intro d s W hJ hfr hd hdep
          simp only [List.mem_cons, forall_eq_or_imp, List.not_mem_nil, false_implies, implies_true, and_true, Region.binds] at hdep
          have f11 := hfr 11 (by decide)
          have f16 := hfr 16 (by decide)
          have f20 := hfr 20 (by decide)
          simp at f11 f16 f20 hdep
          obtain ⟨h0, h1, h2, h3, h4, h5, h6, h7, h8, h9, hT⟩ := hJ
        · refine stepG_plain rfl ?_
          unfold OpSteps
          simp [go_sem, evS, f16]
          exact ⟨fun _ => by simp [sput], fun h => by simpa [sput] using h1 (by simpa [did] using h), fun h => by simpa [sput] using h2 (by simpa [did] using h), fun h => by simpa [sput] using h3 (by simpa [did] using h), fun h => by simpa [sput] using h4 (by simpa [did] using h), fun h => by simpa [sput] using h5 (by simpa [did] using h), fun h => by simpa [sput] using h6 (by simpa [did] using h), fun h => by simpa [sput] using h7 (by simpa [did] using h), fun h => by simpa [sput] using h8 (by simpa [did] using h), fun h => by simpa [sput] using h9 (by simpa [did] using h), hT⟩
        · have g0 := h0 (by simp [hdep])
          refine stepG_plain rfl ?_
          unfold OpSteps
          obtain ⟨p0, p1, p2, p3, p4⟩ := cells5 (Hqr.out.below hT Hqr.out.lt)
          simp [go_sem, evS, g0, p0, p1, p2, p3, p4]
          exact ⟨fun h => by simpa [sput] using h0 (by simpa [did] using h), fun _ => by simp [sput], fun h => by simpa [sput] using h2 (by simpa [did] using h), fun h => by simpa [sput] using h3 (by simpa [did] using h), fun h => by simpa [sput] using h4 (by simpa [did] using h), fun h => by simpa [sput] using h5 (by simpa [did] using h), fun h => by simpa [sput] using h6 (by simpa [did] using h), fun h => by simpa [sput] using h7 (by simpa [did] using h), fun h => by simpa [sput] using h8 (by simpa [did] using h), fun h => by simpa [sput] using h9 (by simpa [did] using h), hT⟩
        · refine stepG_plain rfl ?_
          unfold OpSteps
          obtain ⟨p0, p1, p2, p3, p4⟩ := cells5 (Hmr.out.below hT Hmr.out.lt)
          simp [go_sem, evS, f11, p0, p1, p2, p3, p4]
          exact ⟨fun h => by simpa [sput] using h0 (by simpa [did] using h), fun h => by simpa [sput] using h1 (by simpa [did] using h), fun _ => by simp [sput], fun h => by simpa [sput] using h3 (by simpa [did] using h), fun h => by simpa [sput] using h4 (by simpa [did] using h), fun h => by simpa [sput] using h5 (by simpa [did] using h), fun h => by simpa [sput] using h6 (by simpa [did] using h), fun h => by simpa [sput] using h7 (by simpa [did] using h), fun h => by simpa [sput] using h8 (by simpa [did] using h), fun h => by simpa [sput] using h9 (by simpa [did] using h), hT⟩
        · refine stepG_plain rfl ?_
          unfold OpSteps
          obtain ⟨p0, p1, p2⟩ := cells3v (Htr.out.below hT Htr.out.lt)
          simp [go_sem, evS, f20, p0, p1, p2]
          exact ⟨fun h => by simpa [sput] using h0 (by simpa [did] using h), fun h => by simpa [sput] using h1 (by simpa [did] using h), fun h => by simpa [sput] using h2 (by simpa [did] using h), fun _ => by simp [sput], fun h => by simpa [sput] using h4 (by simpa [did] using h), fun h => by simpa [sput] using h5 (by simpa [did] using h), fun h => by simpa [sput] using h6 (by simpa [did] using h), fun h => by simpa [sput] using h7 (by simpa [did] using h), fun h => by simpa [sput] using h8 (by simpa [did] using h), fun h => by simpa [sput] using h9 (by simpa [did] using h), hT⟩
        · have g2 := h2 (by simp [hdep])
          have g3 := h3 (by simp [hdep])
          refine stepG_plain rfl ?_
          unfold OpSteps
          simp [go_sem, evS, g2, g3]
          refine (HIn.out W hT).mono ?_
          rintro e W' ⟨gi, ci, rfl, hoi, hb⟩
          refine ⟨_, rfl, ?_⟩
          exact ⟨fun h => by simpa [sput] using h0 (by simpa [did] using h), fun h => by simpa [sput] using h1 (by simpa [did] using h), fun h => by simpa [sput] using h2 (by simpa [did] using h), fun h => by simpa [sput] using h3 (by simpa [did] using h), fun _ => ⟨gi, ci, by simp [sput], hoi⟩, fun h => by simpa [sput] using h5 (by simpa [did] using h), fun h => by simpa [sput] using h6 (by simpa [did] using h), fun h => by simpa [sput] using h7 (by simpa [did] using h), fun h => by simpa [sput] using h8 (by simpa [did] using h), fun h => by simpa [sput] using h9 (by simpa [did] using h), below_nx hT hb⟩
        · have g1 := h1 (by simp [hdep])
          have g4 := h4 (by simp [hdep])
          refine stepG_plain rfl ?_
          unfold OpSteps
          obtain ⟨gi, ci, gp, hoi⟩ := g4
          simp [go_sem, evS, g1, gp]
          refine (HAl.out gi ci W hT hoi).mono ?_
          rintro e W' ⟨rfl, hb⟩
          refine ⟨_, rfl, ?_⟩
          exact ⟨fun h => by simpa [sput] using h0 (by simpa [did] using h), fun h => by simpa [sput] using h1 (by simpa [did] using h), fun h => by simpa [sput] using h2 (by simpa [did] using h), fun h => by simpa [sput] using h3 (by simpa [did] using h), fun h => by simpa [sput] using (h4 (by simpa [did] using h)).below hb, fun _ => by simp [sput], fun h => by simpa [sput] using h6 (by simpa [did] using h), fun h => by simpa [sput] using h7 (by simpa [did] using h), fun h => by simpa [sput] using h8 (by simpa [did] using h), fun h => by simpa [sput] using h9 (by simpa [did] using h), below_nx hT hb⟩
        · have g5 := h5 (by simp [hdep])
          refine stepG_plain rfl ?_
          unfold OpSteps
          simp [go_sem, evS, g5]
          exact ⟨fun h => by simpa [sput] using h0 (by simpa [did] using h), fun h => by simpa [sput] using h1 (by simpa [did] using h), fun h => by simpa [sput] using h2 (by simpa [did] using h), fun h => by simpa [sput] using h3 (by simpa [did] using h), fun h => by simpa [sput] using h4 (by simpa [did] using h), fun h => by simpa [sput] using h5 (by simpa [did] using h), fun _ => by simp [sput], fun h => by simpa [sput] using h7 (by simpa [did] using h), fun h => by simpa [sput] using h8 (by simpa [did] using h), fun h => by simpa [sput] using h9 (by simpa [did] using h), hT⟩
        · have g6 := h6 (by simp [hdep])
          refine stepG_on 6 205 true rfl rfl g6 ?_
          unfold OpSteps
          simp [go_sem, evS, g6]
          refine (awake12_any W).mono ?_
          rintro e W' ⟨rfl, hb⟩
          refine ⟨_, rfl, ?_⟩
          exact ⟨fun h => by simpa [sput] using h0 (by simpa [did] using h), fun h => by simpa [sput] using h1 (by simpa [did] using h), fun h => by simpa [sput] using h2 (by simpa [did] using h), fun h => by simpa [sput] using h3 (by simpa [did] using h), fun h => by simpa [sput] using (h4 (by simpa [did] using h)).below hb, fun h => by simpa [sput] using h5 (by simpa [did] using h), fun h => by simpa [sput] using h6 (by simpa [did] using h), fun _ => by simp [sput], fun h => by simpa [sput] using h8 (by simpa [did] using h), fun h => by simpa [sput] using h9 (by simpa [did] using h), below_nx hT hb⟩
        · have g6 := h6 (by simp [hdep])
          have g7 := h7 (by simp [hdep])
          refine stepG_plain rfl ?_
          unfold OpSteps
          simp [go_sem, evS, g6, g7]
          exact ⟨fun h => by simpa [sput] using h0 (by simpa [did] using h), fun h => by simpa [sput] using h1 (by simpa [did] using h), fun h => by simpa [sput] using h2 (by simpa [did] using h), fun h => by simpa [sput] using h3 (by simpa [did] using h), fun h => by simpa [sput] using h4 (by simpa [did] using h), fun h => by simpa [sput] using h5 (by simpa [did] using h), fun h => by simpa [sput] using h6 (by simpa [did] using h), fun h => by simpa [sput] using h7 (by simpa [did] using h), fun _ => by simp [sput], fun h => by simpa [sput] using h9 (by simpa [did] using h), hT⟩
        · have g8 := h8 (by simp [hdep])
          refine stepG_plain rfl ?_
          unfold OpSteps
          simp [go_sem, evS, g8]
          exact ⟨fun h => by simpa [sput] using h0 (by simpa [did] using h), fun h => by simpa [sput] using h1 (by simpa [did] using h), fun h => by simpa [sput] using h2 (by simpa [did] using h), fun h => by simpa [sput] using h3 (by simpa [did] using h), fun h => by simpa [sput] using h4 (by simpa [did] using h), fun h => by simpa [sput] using h5 (by simpa [did] using h), fun h => by simpa [sput] using h6 (by simpa [did] using h), fun h => by simpa [sput] using h7 (by simpa [did] using h), fun h => by simpa [sput] using h8 (by simpa [did] using h), fun _ => by simp [sput], hT⟩
      intro d s W hJ hd
      obtain ⟨h0, h1, h2, h3, h4, h5, h6, h7, h8, h9, hT⟩ := hJ
      have hs := h9 (hd 9 (by decide))
      have HBe := Lib.hid (HBr.out.trans (hT.mono HBr.out.size))
      clear h0 h1 h2 h3 h4 h5 h6 h7 h8 h9 hT hd
      simp [setAll, hs]
      clear hs
      go_wp2_with fail
      go_ret
      exact ⟨rfl, HBe.out⟩
end Go.Proofs.Ytbjopdnfjjcpoaa
