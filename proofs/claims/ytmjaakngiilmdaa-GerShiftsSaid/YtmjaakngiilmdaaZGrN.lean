/-
GerShifts, where the lists are too short or too long. Conditions: as each says.
-/
import Derived.Test.YtmjaakngiilmdaaZGrK
set_option linter.unusedVariables false
set_option linter.unusedSimpArgs false
set_option linter.unnecessarySimpa false
namespace Go.Proofs.Ytmjaakngiilmdaa
open Go.RowKit
attribute [local go_sem ↓] Go.wp_at_zero Go.wp_at_succ


set_option maxRecDepth 100000 in
set_option maxHeartbeats 4000000 in
theorem gerShifts_size (Am : Option Addr) (nm cm : Nat) (lm : List Nat) (o R C L : Nat)  (B : Option Addr) (rn rc : Nat) (zr : List Int) (D : Option Addr) (cn0 cc : Nat) (zc : List Int) (w : World) (hA : Row w Am (f64s lm)) (hW : Wds lm) (hl : lm.length = nm) (hnc : nm ≤ cm) (hn : nm ≤ 1000) (hr100 : rn ≤ 100) (hc100 : cn0 ≤ 100) (hG : greatB nm (R : Int) (C : Int) = false) (hM20 : R ≤ 20 ∧ C ≤ 20) (ho : I64 (o : Int)) (hi : I64 (L : Int)) (hL1 : 1 ≤ L) (hRL : R ≤ L) (hmr : R = 0 ∨ C = 0 ∨ o + (C - 1) * L + (R - 1) < nm) (b1 b2 : Bool) (hb1 : ((rn : Int) != (R : Int)) = b1) (hb2 : ((cn0 : Int) != (C : Int)) = b2) (hbb : b1 = true ∨ (b1 = false ∧ b2 = true)) :
    Calls Try.prog 5 #[mat Am nm cm o R C L, .slice B rn rc, .slice D cn0 cc] w fun e w' => e = .returned (.bool true) ∧ Below w.heap.size w w' := by
  have hr : I64 (R : Int) := by unfold I64; omega
  have hk : I64 (C : Int) := by unfold I64; omega
  obtain ⟨N, hN⟩ : ∃ N, R * C = N := ⟨_, rfl⟩
  obtain ⟨E, hE⟩ : ∃ E, max 1 C = E := ⟨_, rfl⟩
  have hN20 : N < 1048576 := by
    have h1 : R * C ≤ 20 * 20 := Nat.mul_le_mul hM20.1 hM20.2
    omega
  have hgd : matB nm (o : Int) (R : Int) (C : Int) (L : Int) = true := mat_right hL1 hRL hmr
  have HGr := Lib.hid (fun W => great_any Am nm cm o R C L W)
  rw [hG] at HGr
  have HAp := Lib.hid (fun W (hb : Below w.heap.size w W) => show Calls Try.prog 15 #[mat Am nm cm o R C L] W fun e w' => ∃ g c', e = .returned (mat (some ⟨g, 0, none⟩) nm c' o R C L) ∧ Own w' g lm ∧ W.heap.size ≤ g ∧ Below W.heap.size W w' from by
    have := rapart_any Am cm lm o R C L W (hA.below hb) (by omega)
    rw [hl] at this
    exact this.mono fun e w' ⟨g, c', e1, e2, e3, _, _, e4⟩ => ⟨g, c', e1, e2, e3, e4⟩)
  have HGd := Lib.hid (fun W => rgood_any Am nm cm o R C L W (by omega) ho hr hk hi)
  rw [hgd] at HGd
  have HAm := Lib.hid hA
  have HAll := Lib.hid (fun W (A B : Option Addr) (c d : Nat) (h1 : Row W A (f64s lm)) (h2 : Row W B (f64s lm)) => show Calls Try.prog 23 #[.slice A nm c, .slice B nm d] W fun e w' => e = .returned (.bool true) ∧ Below W.heap.size W w' from by
    have := rall_any A B c d lm lm W hW hW h1 h2 (by omega) (Alike.refl lm)
    rw [hl] at this; exact this)
  have d1 : decide ((100 : Int) < (rn : Int)) = false := by simp; omega
  have d2 : decide ((100 : Int) < (cn0 : Int)) = false := by simp; omega
  have HTu := Lib.hid (fun W (hb : Below w.heap.size w W) => show Calls Try.prog 29 #[mat Am nm cm o R C L] W fun e w' => ∃ g M, e = .returned (.tuple #[mat (some ⟨g, 0, none⟩) N N 0 C R E, .int .i64 0]) ∧ Dense (colsL lm o R L C) C R M ∧ Own w' g M ∧ W.heap.size + 2 ≤ g ∧ Below W.heap.size W w' from
    grturn_ok Am nm cm lm o R C L N E W (hA.below hb) hl hnc (by omega) ⟨by unfold I64 at ho; omega, by omega, by omega, by unfold I64 at hi; omega⟩ hN hE hL1 hRL hmr)
  have hEr : C = 0 ∨ R = 0 ∨ 0 + (R - 1) * E + (C - 1) < N := by
    rcases Nat.eq_zero_or_pos R with h | h
    · exact .inr (.inl h)
    rcases Nat.eq_zero_or_pos C with h2 | h2
    · exact .inl h2
    · right; right
      have e : E = C := by omega
      subst e
      have h3 := tab_lt (r := R) (k := E) (i := R - 1) (j := E - 1) (by omega) (by omega)
      omega
  have HGt := Lib.hid (fun (g : Nat) W => rgood_any (some ⟨g, 0, none⟩) N N 0 C R E W (by omega) (by unfold I64; omega) (by unfold I64; omega) (by unfold I64; omega) (by unfold I64; omega))
  have hgt : matB N 0 (C : Int) (R : Int) (E : Int) = true := mat_right (o := 0) (by omega) (by omega) hEr
  rw [hgt] at HGt
  have HOt := Lib.hid (fun (g : Nat) (M : List Nat) W (hd : Dense (colsL lm o R L C) C R M) (hO : Own W g M) => show Calls Try.prog 27 #[mat (some ⟨g, 0, none⟩) N N 0 C R E] W fun e w' => ∃ g T, e = .returned (tbl C R g N N) ∧ TrnS lm o R C L N T ∧ Row w' (some ⟨g, 0, none⟩) (f64s T) ∧ Below W.heap.size W w' from by
    refine (rof_any (some ⟨g, 0, none⟩) N N M 0 C R E N W hO.row (by rw [hd.1, Nat.mul_comm, hN]) (by omega) (by rw [Nat.mul_comm, hN]) (by omega) (by omega) (by omega) hEr).mono ?_
    rintro e w' ⟨g', T, e1, e2, e3, _, e4⟩
    exact ⟨g', T, e1, TrnS.of_prog hN hE hd e2, e3, e4⟩)
  have HOm := Lib.hid (fun W (hb : Below w.heap.size w W) => show Calls Try.prog 27 #[mat Am nm cm o R C L] W fun e w' => ∃ g T, e = .returned (tbl R C g N N) ∧ Tab lm o R C L N T ∧ Row w' (some ⟨g, 0, none⟩) (f64s T) ∧ Below W.heap.size W w' from by
    refine (rof_any Am nm cm lm o R C L N W (hA.below hb) hl (by omega) hN (by omega) (by omega) (by omega) hmr).mono ?_
    rintro e w' ⟨g', T, e1, e2, e3, _, e4⟩
    exact ⟨g', T, e1, e2, e3, e4⟩)
  have HRt := Lib.hid (fun (g c : Nat) (T : List Nat) W (hT : Tab lm o R C L N T) (h : Row W (some ⟨g, 0, none⟩) (f64s T)) => show Calls Try.prog 30 #[tbl R C g N c] W fun e w' => ∃ g c T', e = .returned (tbl C R g N c) ∧ TrnS lm o R C L N T' ∧ Row w' (some ⟨g, 0, none⟩) (f64s T') ∧ Below W.heap.size W w' from by
    refine (rturn_any R C g N c T W h (by rw [hT.1, hN]) hN hN20 (by omega) (by omega)).mono ?_
    rintro e w' ⟨g', c', T', e1, e2, e3, e4, _, e5⟩
    exact ⟨g', c', T', e1, TrnS.of_ref hN hT e3 e4, e2.row, e5⟩)
  have HAlF := Lib.hid (fun W (A B : Option Addr) (c d : Nat) (X Y : List Nat) (hX : TrnS lm o R C L N X) (hY : TrnS lm o R C L N Y) (h1 : Row W A (f64s X)) (h2 : Row W B (f64s Y)) => show Calls Try.prog 23 #[.slice A N c, .slice B N d] W fun e w' => e = .returned (.bool true) ∧ Below W.heap.size W w' from by
    have e := hX.uniq hN hY
    subst e
    have := rall_any A B c d X X W (hX.wds hN hW) (hX.wds hN hW) h1 h2 (by rw [hX.1]; omega) (Alike.refl X)
    rw [hX.1] at this; exact this)
  have HSh := Lib.hid (fun (g c : Nat) W => grshift_size (some ⟨g, 0, none⟩) nm c o R C L B rn rc D cn0 cc W (by omega) ho hr hk hi hgd (by
    rintro ⟨e1, e2⟩
    rcases hbb with h | ⟨_, h⟩
    · rw [← hb1] at h; simp at h; exact h (by omega)
    · rw [← hb2] at h; simp at h; exact h (by omega)))
  have tC : ((C : Int) != (C : Int)) = false := by simp
  have tR : ((R : Int) != (R : Int)) = false := by simp
  clear hA hW hl hnc hn hr100 hc100 hG hM20 ho hi hL1 hRL hmr hr hk hN hE hN20 hgd hEr hgt
  unfold mat tbl at *
  go_enter Try.func5, Try.ntmps5
  have Hm0 := Lib.hid (Blk.new w 26 #[.slice Am nm cm, .int .i64 (o : Int), .int .i64 (R : Int), .int .i64 (C : Int), .int .i64 (L : Int)])
  have HB0 := Lib.hid ((Below.refl w.heap.size w).alloc (Nat.le_refl _) (.cells #[.slice Am nm cm, .int .i64 (o : Int), .int .i64 (R : Int), .int .i64 (C : Int), .int .i64 (L : Int)] 26))
  obtain ⟨m0, m1, m2, m3, m4⟩ := cells5 Hm0.out
  go_wp2_with fail
  refine (awake8_any _).mono ?_
  rintro e w1 ⟨rfl, hb⟩
  have Hm1 := Lib.hid (Hm0.out.nxt hb)
  have HB1 := Lib.hid (below_nx HB0.out hb)
  clear hb
  clear m0 m1 m2 m3 m4
  obtain ⟨m0, m1, m2, m3, m4⟩ := cells5 Hm1.out
  go_wp2_with fail
  refine (HGr.out _).mono ?_
  rintro e w2 ⟨rfl, hb⟩
  have Hm2 := Lib.hid (Hm1.out.nxt hb)
  have HB2 := Lib.hid (below_nx HB1.out hb)
  clear hb
  clear m0 m1 m2 m3 m4
  obtain ⟨m0, m1, m2, m3, m4⟩ := cells5 Hm2.out
  go_wp2_with fail
  refine (HAp.out _ HB2.out).mono ?_
  rintro e w3 ⟨gn, cn, rfl, hOn, hgn, hb⟩
  have HGn := Lib.hid (Nat.le_trans HB2.out.size hgn)
  have Hm3 := Lib.hid (Hm2.out.nxt hb)
  have HB3 := Lib.hid (below_nx HB2.out hb)
  clear hb
  clear m0 m1 m2 m3 m4
  obtain ⟨m0, m1, m2, m3, m4⟩ := cells5 Hm3.out
  have Hn3 := Lib.hid hOn
  clear hOn hgn
  have Hm4 := Lib.hid (Hm3.out.alloc (.cells #[.slice (some ⟨gn, 0, none⟩) nm cn, .int .i64 (o : Int), .int .i64 (R : Int), .int .i64 (C : Int), .int .i64 (L : Int)] 26))
  have Hn4 := Lib.hid (Hn3.out.nxt (below_one (o := (.cells #[.slice (some ⟨gn, 0, none⟩) nm cn, .int .i64 (o : Int), .int .i64 (R : Int), .int .i64 (C : Int), .int .i64 (L : Int)] 26))))
  have Hk4 := Lib.hid (Blk.new w3 26 #[.slice (some ⟨gn, 0, none⟩) nm cn, .int .i64 (o : Int), .int .i64 (R : Int), .int .i64 (C : Int), .int .i64 (L : Int)])
  have HB4 := Lib.hid (below_al HB3.out (o := (.cells #[.slice (some ⟨gn, 0, none⟩) nm cn, .int .i64 (o : Int), .int .i64 (R : Int), .int .i64 (C : Int), .int .i64 (L : Int)] 26)))
  clear m0 m1 m2 m3 m4
  obtain ⟨m0, m1, m2, m3, m4⟩ := cells5 Hm4.out
  obtain ⟨k0, k1, k2, k3, k4⟩ := cells5 Hk4.out
  go_wp2_with fail
  clear m0 m1 m2 m3 m4 k0 k1 k2 k3 k4
  generalize hq9 : w3.alloc (.cells #[.slice (some ⟨gn, 0, none⟩) nm cn, .int .i64 (o : Int), .int .i64 (R : Int), .int .i64 (C : Int), .int .i64 (L : Int)] 26) = w4 at *
  clear hq9
  generalize w3.heap.size = pn at *
  obtain ⟨m0, m1, m2, m3, m4⟩ := cells5 Hm4.out
  obtain ⟨k0, k1, k2, k3, k4⟩ := cells5 Hk4.out
  refine (HSh.out _ _ _).mono ?_
  rintro e w5 ⟨rfl, hb⟩
  have Hm5 := Lib.hid (Hm4.out.nxt hb)
  have Hk5 := Lib.hid (Hk4.out.nxt hb)
  have Hn5 := Lib.hid (Hn4.out.nxt hb)
  have HB5 := Lib.hid (below_nx HB4.out hb)
  clear hb
  clear m0 m1 m2 m3 m4 k0 k1 k2 k3 k4
  obtain ⟨m0, m1, m2, m3, m4⟩ := cells5 Hm5.out
  obtain ⟨k0, k1, k2, k3, k4⟩ := cells5 Hk5.out
  go_wp2_with fail
  refine (HTu.out _ HB5.out).mono ?_
  rintro e w6 ⟨gt, Mt, rfl, hdt, hOt, hgt, hb⟩
  have Hm6 := Lib.hid (Hm5.out.nxt hb)
  have Hk6 := Lib.hid (Hk5.out.nxt hb)
  have Hn6 := Lib.hid (Hn5.out.nxt hb)
  have HB6 := Lib.hid (below_nx HB5.out hb)
  clear hb
  clear m0 m1 m2 m3 m4 k0 k1 k2 k3 k4
  obtain ⟨m0, m1, m2, m3, m4⟩ := cells5 Hm6.out
  obtain ⟨k0, k1, k2, k3, k4⟩ := cells5 Hk6.out
  have Hu6 := Lib.hid hOt
  have HDt := Lib.hid hdt
  clear hOt hdt hgt
  have Hm7 := Lib.hid (Hm6.out.alloc (.cells #[.slice (some ⟨gt, 0, none⟩) N N, .int .i64 0, .int .i64 (C : Int), .int .i64 (R : Int), .int .i64 (E : Int)] 26))
  have Hk7 := Lib.hid (Hk6.out.alloc (.cells #[.slice (some ⟨gt, 0, none⟩) N N, .int .i64 0, .int .i64 (C : Int), .int .i64 (R : Int), .int .i64 (E : Int)] 26))
  have Hn7 := Lib.hid (Hn6.out.nxt (below_one (o := (.cells #[.slice (some ⟨gt, 0, none⟩) N N, .int .i64 0, .int .i64 (C : Int), .int .i64 (R : Int), .int .i64 (E : Int)] 26))))
  have Hu7 := Lib.hid (Hu6.out.nxt (below_one (o := (.cells #[.slice (some ⟨gt, 0, none⟩) N N, .int .i64 0, .int .i64 (C : Int), .int .i64 (R : Int), .int .i64 (E : Int)] 26))))
  have Ht7 := Lib.hid (Blk.new w6 26 #[.slice (some ⟨gt, 0, none⟩) N N, .int .i64 0, .int .i64 (C : Int), .int .i64 (R : Int), .int .i64 (E : Int)])
  have HB7 := Lib.hid (below_al HB6.out (o := (.cells #[.slice (some ⟨gt, 0, none⟩) N N, .int .i64 0, .int .i64 (C : Int), .int .i64 (R : Int), .int .i64 (E : Int)] 26)))
  clear m0 m1 m2 m3 m4 k0 k1 k2 k3 k4
  obtain ⟨m0, m1, m2, m3, m4⟩ := cells5 Hm7.out
  obtain ⟨k0, k1, k2, k3, k4⟩ := cells5 Hk7.out
  obtain ⟨t0, t1, t2, t3, t4⟩ := cells5 Ht7.out
  go_wp2_with fail
  clear m0 m1 m2 m3 m4 k0 k1 k2 k3 k4 t0 t1 t2 t3 t4
  generalize hq9 : w6.alloc (.cells #[.slice (some ⟨gt, 0, none⟩) N N, .int .i64 0, .int .i64 (C : Int), .int .i64 (R : Int), .int .i64 (E : Int)] 26) = w7 at *
  clear hq9
  generalize w6.heap.size = pt at *
  obtain ⟨m0, m1, m2, m3, m4⟩ := cells5 Hm7.out
  obtain ⟨k0, k1, k2, k3, k4⟩ := cells5 Hk7.out
  obtain ⟨t0, t1, t2, t3, t4⟩ := cells5 Ht7.out
  refine (HGd.out _).mono ?_
  rintro e w8 ⟨rfl, hb⟩
  have Hm8 := Lib.hid (Hm7.out.nxt hb)
  have Hk8 := Lib.hid (Hk7.out.nxt hb)
  have Ht8 := Lib.hid (Ht7.out.nxt hb)
  have Hn8 := Lib.hid (Hn7.out.nxt hb)
  have Hu8 := Lib.hid (Hu7.out.nxt hb)
  have HB8 := Lib.hid (below_nx HB7.out hb)
  clear hb
  clear m0 m1 m2 m3 m4 k0 k1 k2 k3 k4 t0 t1 t2 t3 t4
  obtain ⟨m0, m1, m2, m3, m4⟩ := cells5 Hm8.out
  obtain ⟨k0, k1, k2, k3, k4⟩ := cells5 Hk8.out
  obtain ⟨t0, t1, t2, t3, t4⟩ := cells5 Ht8.out
  go_wp2_with fail
  refine wp_region_invG [67, 68, 69, 70, 71, 72, 73, 74, 75, 76, 77, 78, 79, 80, 81, 82, 83, 84, 85, 86, 87, 88, 89, 90, 91, 92, 93, 94, 95, 96, 97, 98] (fun d s W => (d 0 = true → s 67 = .int .i64 0) ∧ (d 1 = true → s 68 = .bool false) ∧ (d 2 = true → s 69 = .bool false) ∧ (d 3 = true → s 70 = .agg #[.slice (some ⟨gt, 0, none⟩) N N, .int .i64 0, .int .i64 (C : Int), .int .i64 (R : Int), .int .i64 (E : Int)]) ∧ (d 4 = true → s 71 = .bool true) ∧ (d 5 = true → s 72 = .bool false) ∧ (d 6 = true → s 73 = .bool false) ∧ (d 7 = true → s 74 = .bool false) ∧ (d 8 = true → s 75 = .pointer (some ⟨pt, 2, none⟩)) ∧ (d 9 = true → s 76 = .int .i64 (C : Int)) ∧ (d 10 = true → s 77 = .pointer (some ⟨w.heap.size, 3, none⟩)) ∧ (d 11 = true → s 78 = .int .i64 (C : Int)) ∧ (d 12 = true → s 79 = .bool false) ∧ (d 13 = true → s 80 = .bool false) ∧ (d 14 = true → s 81 = .bool false) ∧ (d 15 = true → s 82 = .pointer (some ⟨pt, 3, none⟩)) ∧ (d 16 = true → s 83 = .int .i64 (R : Int)) ∧ (d 17 = true → s 84 = .pointer (some ⟨w.heap.size, 2, none⟩)) ∧ (d 18 = true → s 85 = .int .i64 (R : Int)) ∧ (d 19 = true → s 86 = .bool false) ∧ (d 20 = true → s 87 = .bool false) ∧ (d 21 = true → s 88 = .bool false) ∧ (d 22 = true → s 89 = .agg #[.slice (some ⟨gt, 0, none⟩) N N, .int .i64 0, .int .i64 (C : Int), .int .i64 (R : Int), .int .i64 (E : Int)]) ∧ (d 23 = true → TbG W (s 90) (TrnS lm o R C L N) C R N) ∧ (d 24 = true → SlG W (s 91) (TrnS lm o R C L N) N) ∧ (d 25 = true → s 92 = .agg #[.slice Am nm cm, .int .i64 (o : Int), .int .i64 (R : Int), .int .i64 (C : Int), .int .i64 (L : Int)]) ∧ (d 26 = true → TbG W (s 93) (Tab lm o R C L N) R C N) ∧ (d 27 = true → TbG W (s 94) (TrnS lm o R C L N) C R N) ∧ (d 28 = true → SlG W (s 95) (TrnS lm o R C L N) N) ∧ (d 29 = true → s 96 = .bool true) ∧ (d 30 = true → s 97 = .bool false) ∧ (d 31 = true → s 98 = .bool false) ∧ Below w8.heap.size w8 W)
    rfl (by kernel_rfl) ?_ ?_ ?_
  · exact ⟨by simp, by simp, by simp, by simp, by simp, by simp, by simp, by simp, by simp, by simp, by simp, by simp, by simp, by simp, by simp, by simp, by simp, by simp, by simp, by simp, by simp, by simp, by simp, by simp, by simp, by simp, by simp, by simp, by simp, by simp, by simp, by simp, (Below.refl _ _).drew⟩
  · refine ⟨?_, ?_, ?_, ?_, ?_, ?_, ?_, ?_, ?_, ?_, ?_, ?_, ?_, ?_, ?_, ?_, ?_, ?_, ?_, ?_, ?_, ?_, ?_, ?_, ?_, ?_, ?_, ?_, ?_, ?_, ?_, ?_, trivial⟩
    all_goals
      intro d s W hJ hfr hd hdep
      simp only [List.mem_cons, forall_eq_or_imp, List.not_mem_nil, false_implies, implies_true, and_true, Region.binds] at hdep
      have f3 := hfr 3 (by decide)
      have f9 := hfr 9 (by decide)
      have f10 := hfr 10 (by decide)
      simp at f3 f9 f10 hdep
      obtain ⟨h0, h1, h2, h3, h4, h5, h6, h7, h8, h9, h10, h11, h12, h13, h14, h15, h16, h17, h18, h19, h20, h21, h22, h23, h24, h25, h26, h27, h28, h29, h30, h31, hT⟩ := hJ
    · refine stepG_plain rfl ?_
      unfold OpSteps
      simp [go_sem, evS, f10]
      exact ⟨fun _ => by simp [sput], kpv h1 (by decide) (by decide), kpv h2 (by decide) (by decide), kpv h3 (by decide) (by decide), kpv h4 (by decide) (by decide), kpv h5 (by decide) (by decide), kpv h6 (by decide) (by decide), kpv h7 (by decide) (by decide), kpv h8 (by decide) (by decide), kpv h9 (by decide) (by decide), kpv h10 (by decide) (by decide), kpv h11 (by decide) (by decide), kpv h12 (by decide) (by decide), kpv h13 (by decide) (by decide), kpv h14 (by decide) (by decide), kpv h15 (by decide) (by decide), kpv h16 (by decide) (by decide), kpv h17 (by decide) (by decide), kpv h18 (by decide) (by decide), kpv h19 (by decide) (by decide), kpv h20 (by decide) (by decide), kpv h21 (by decide) (by decide), kpv h22 (by decide) (by decide), fun h => by simpa [sput] using h23 (by simpa [did] using h), fun h => by simpa [sput] using h24 (by simpa [did] using h), kpv h25 (by decide) (by decide), fun h => by simpa [sput] using h26 (by simpa [did] using h), fun h => by simpa [sput] using h27 (by simpa [did] using h), fun h => by simpa [sput] using h28 (by simpa [did] using h), kpv h29 (by decide) (by decide), kpv h30 (by decide) (by decide), kpv h31 (by decide) (by decide), hT⟩
    · have g0 := h0 (by simp [hdep])
      refine stepG_plain rfl ?_
      unfold OpSteps
      simp [go_sem, evS, g0]
      exact ⟨kpv h0 (by decide) (by decide), fun _ => by simp [sput], kpv h2 (by decide) (by decide), kpv h3 (by decide) (by decide), kpv h4 (by decide) (by decide), kpv h5 (by decide) (by decide), kpv h6 (by decide) (by decide), kpv h7 (by decide) (by decide), kpv h8 (by decide) (by decide), kpv h9 (by decide) (by decide), kpv h10 (by decide) (by decide), kpv h11 (by decide) (by decide), kpv h12 (by decide) (by decide), kpv h13 (by decide) (by decide), kpv h14 (by decide) (by decide), kpv h15 (by decide) (by decide), kpv h16 (by decide) (by decide), kpv h17 (by decide) (by decide), kpv h18 (by decide) (by decide), kpv h19 (by decide) (by decide), kpv h20 (by decide) (by decide), kpv h21 (by decide) (by decide), kpv h22 (by decide) (by decide), fun h => by simpa [sput] using h23 (by simpa [did] using h), fun h => by simpa [sput] using h24 (by simpa [did] using h), kpv h25 (by decide) (by decide), fun h => by simpa [sput] using h26 (by simpa [did] using h), fun h => by simpa [sput] using h27 (by simpa [did] using h), fun h => by simpa [sput] using h28 (by simpa [did] using h), kpv h29 (by decide) (by decide), kpv h30 (by decide) (by decide), kpv h31 (by decide) (by decide), hT⟩
    · have g1 := h1 (by simp [hdep])
      refine stepG_plain rfl ?_
      unfold OpSteps
      simp [go_sem, evS, g1]
      exact ⟨kpv h0 (by decide) (by decide), kpv h1 (by decide) (by decide), fun _ => by simp [sput], kpv h3 (by decide) (by decide), kpv h4 (by decide) (by decide), kpv h5 (by decide) (by decide), kpv h6 (by decide) (by decide), kpv h7 (by decide) (by decide), kpv h8 (by decide) (by decide), kpv h9 (by decide) (by decide), kpv h10 (by decide) (by decide), kpv h11 (by decide) (by decide), kpv h12 (by decide) (by decide), kpv h13 (by decide) (by decide), kpv h14 (by decide) (by decide), kpv h15 (by decide) (by decide), kpv h16 (by decide) (by decide), kpv h17 (by decide) (by decide), kpv h18 (by decide) (by decide), kpv h19 (by decide) (by decide), kpv h20 (by decide) (by decide), kpv h21 (by decide) (by decide), kpv h22 (by decide) (by decide), fun h => by simpa [sput] using h23 (by simpa [did] using h), fun h => by simpa [sput] using h24 (by simpa [did] using h), kpv h25 (by decide) (by decide), fun h => by simpa [sput] using h26 (by simpa [did] using h), fun h => by simpa [sput] using h27 (by simpa [did] using h), fun h => by simpa [sput] using h28 (by simpa [did] using h), kpv h29 (by decide) (by decide), kpv h30 (by decide) (by decide), kpv h31 (by decide) (by decide), hT⟩
    · have g2 := h2 (by simp [hdep])
      refine stepG_on 2 69 false rfl rfl g2 ?_
      unfold OpSteps
      obtain ⟨p0, p1, p2, p3, p4⟩ := cells5 (Ht8.out.below hT Ht8.out.lt)
      simp [go_sem, evS, f9, g2, p0, p1, p2, p3, p4]
      exact ⟨kpv h0 (by decide) (by decide), kpv h1 (by decide) (by decide), kpv h2 (by decide) (by decide), fun _ => by simp [sput], kpv h4 (by decide) (by decide), kpv h5 (by decide) (by decide), kpv h6 (by decide) (by decide), kpv h7 (by decide) (by decide), kpv h8 (by decide) (by decide), kpv h9 (by decide) (by decide), kpv h10 (by decide) (by decide), kpv h11 (by decide) (by decide), kpv h12 (by decide) (by decide), kpv h13 (by decide) (by decide), kpv h14 (by decide) (by decide), kpv h15 (by decide) (by decide), kpv h16 (by decide) (by decide), kpv h17 (by decide) (by decide), kpv h18 (by decide) (by decide), kpv h19 (by decide) (by decide), kpv h20 (by decide) (by decide), kpv h21 (by decide) (by decide), kpv h22 (by decide) (by decide), fun h => by simpa [sput] using h23 (by simpa [did] using h), fun h => by simpa [sput] using h24 (by simpa [did] using h), kpv h25 (by decide) (by decide), fun h => by simpa [sput] using h26 (by simpa [did] using h), fun h => by simpa [sput] using h27 (by simpa [did] using h), fun h => by simpa [sput] using h28 (by simpa [did] using h), kpv h29 (by decide) (by decide), kpv h30 (by decide) (by decide), kpv h31 (by decide) (by decide), hT⟩
    · have g3 := h3 (by simp [hdep])
      have g2 := h2 (by simp [hdep])
      refine stepG_on 2 69 false rfl rfl g2 ?_
      unfold OpSteps
      simp [go_sem, evS, g3, g2]
      refine (HGt.out gt W).mono ?_
      rintro e W' ⟨rfl, hb⟩
      refine ⟨_, rfl, ?_⟩
      exact ⟨kpv h0 (by decide) (by decide), kpv h1 (by decide) (by decide), kpv h2 (by decide) (by decide), kpv h3 (by decide) (by decide), fun _ => by simp [sput], kpv h5 (by decide) (by decide), kpv h6 (by decide) (by decide), kpv h7 (by decide) (by decide), kpv h8 (by decide) (by decide), kpv h9 (by decide) (by decide), kpv h10 (by decide) (by decide), kpv h11 (by decide) (by decide), kpv h12 (by decide) (by decide), kpv h13 (by decide) (by decide), kpv h14 (by decide) (by decide), kpv h15 (by decide) (by decide), kpv h16 (by decide) (by decide), kpv h17 (by decide) (by decide), kpv h18 (by decide) (by decide), kpv h19 (by decide) (by decide), kpv h20 (by decide) (by decide), kpv h21 (by decide) (by decide), kpv h22 (by decide) (by decide), fun h => by simpa [sput] using (h23 (by simpa [did] using h)).below hb, fun h => by simpa [sput] using (h24 (by simpa [did] using h)).below hb, kpv h25 (by decide) (by decide), fun h => by simpa [sput] using (h26 (by simpa [did] using h)).below hb, fun h => by simpa [sput] using (h27 (by simpa [did] using h)).below hb, fun h => by simpa [sput] using (h28 (by simpa [did] using h)).below hb, kpv h29 (by decide) (by decide), kpv h30 (by decide) (by decide), kpv h31 (by decide) (by decide), below_nx hT hb⟩
    · have g4 := h4 (by simp [hdep])
      have g2 := h2 (by simp [hdep])
      refine stepG_on 2 69 false rfl rfl g2 ?_
      unfold OpSteps
      simp [go_sem, evS, g4, g2]
      exact ⟨kpv h0 (by decide) (by decide), kpv h1 (by decide) (by decide), kpv h2 (by decide) (by decide), kpv h3 (by decide) (by decide), kpv h4 (by decide) (by decide), fun _ => by simp [sput], kpv h6 (by decide) (by decide), kpv h7 (by decide) (by decide), kpv h8 (by decide) (by decide), kpv h9 (by decide) (by decide), kpv h10 (by decide) (by decide), kpv h11 (by decide) (by decide), kpv h12 (by decide) (by decide), kpv h13 (by decide) (by decide), kpv h14 (by decide) (by decide), kpv h15 (by decide) (by decide), kpv h16 (by decide) (by decide), kpv h17 (by decide) (by decide), kpv h18 (by decide) (by decide), kpv h19 (by decide) (by decide), kpv h20 (by decide) (by decide), kpv h21 (by decide) (by decide), kpv h22 (by decide) (by decide), fun h => by simpa [sput] using h23 (by simpa [did] using h), fun h => by simpa [sput] using h24 (by simpa [did] using h), kpv h25 (by decide) (by decide), fun h => by simpa [sput] using h26 (by simpa [did] using h), fun h => by simpa [sput] using h27 (by simpa [did] using h), fun h => by simpa [sput] using h28 (by simpa [did] using h), kpv h29 (by decide) (by decide), kpv h30 (by decide) (by decide), kpv h31 (by decide) (by decide), hT⟩
    · have g2 := h2 (by simp [hdep])
      have g5 := h5 (by simp [hdep])
      refine stepG_plain rfl ?_
      unfold OpSteps
      simp [go_sem, evS, g2, g5]
      exact ⟨kpv h0 (by decide) (by decide), kpv h1 (by decide) (by decide), kpv h2 (by decide) (by decide), kpv h3 (by decide) (by decide), kpv h4 (by decide) (by decide), kpv h5 (by decide) (by decide), fun _ => by simp [sput], kpv h7 (by decide) (by decide), kpv h8 (by decide) (by decide), kpv h9 (by decide) (by decide), kpv h10 (by decide) (by decide), kpv h11 (by decide) (by decide), kpv h12 (by decide) (by decide), kpv h13 (by decide) (by decide), kpv h14 (by decide) (by decide), kpv h15 (by decide) (by decide), kpv h16 (by decide) (by decide), kpv h17 (by decide) (by decide), kpv h18 (by decide) (by decide), kpv h19 (by decide) (by decide), kpv h20 (by decide) (by decide), kpv h21 (by decide) (by decide), kpv h22 (by decide) (by decide), fun h => by simpa [sput] using h23 (by simpa [did] using h), fun h => by simpa [sput] using h24 (by simpa [did] using h), kpv h25 (by decide) (by decide), fun h => by simpa [sput] using h26 (by simpa [did] using h), fun h => by simpa [sput] using h27 (by simpa [did] using h), fun h => by simpa [sput] using h28 (by simpa [did] using h), kpv h29 (by decide) (by decide), kpv h30 (by decide) (by decide), kpv h31 (by decide) (by decide), hT⟩
    · have g6 := h6 (by simp [hdep])
      refine stepG_plain rfl ?_
      unfold OpSteps
      simp [go_sem, evS, g6]
      exact ⟨kpv h0 (by decide) (by decide), kpv h1 (by decide) (by decide), kpv h2 (by decide) (by decide), kpv h3 (by decide) (by decide), kpv h4 (by decide) (by decide), kpv h5 (by decide) (by decide), kpv h6 (by decide) (by decide), fun _ => by simp [sput], kpv h8 (by decide) (by decide), kpv h9 (by decide) (by decide), kpv h10 (by decide) (by decide), kpv h11 (by decide) (by decide), kpv h12 (by decide) (by decide), kpv h13 (by decide) (by decide), kpv h14 (by decide) (by decide), kpv h15 (by decide) (by decide), kpv h16 (by decide) (by decide), kpv h17 (by decide) (by decide), kpv h18 (by decide) (by decide), kpv h19 (by decide) (by decide), kpv h20 (by decide) (by decide), kpv h21 (by decide) (by decide), kpv h22 (by decide) (by decide), fun h => by simpa [sput] using h23 (by simpa [did] using h), fun h => by simpa [sput] using h24 (by simpa [did] using h), kpv h25 (by decide) (by decide), fun h => by simpa [sput] using h26 (by simpa [did] using h), fun h => by simpa [sput] using h27 (by simpa [did] using h), fun h => by simpa [sput] using h28 (by simpa [did] using h), kpv h29 (by decide) (by decide), kpv h30 (by decide) (by decide), kpv h31 (by decide) (by decide), hT⟩
    · have g7 := h7 (by simp [hdep])
      refine stepG_on 7 74 false rfl rfl g7 ?_
      unfold OpSteps
      simp [go_sem, evS, f9, g7]
      exact ⟨kpv h0 (by decide) (by decide), kpv h1 (by decide) (by decide), kpv h2 (by decide) (by decide), kpv h3 (by decide) (by decide), kpv h4 (by decide) (by decide), kpv h5 (by decide) (by decide), kpv h6 (by decide) (by decide), kpv h7 (by decide) (by decide), fun _ => by simp [sput], kpv h9 (by decide) (by decide), kpv h10 (by decide) (by decide), kpv h11 (by decide) (by decide), kpv h12 (by decide) (by decide), kpv h13 (by decide) (by decide), kpv h14 (by decide) (by decide), kpv h15 (by decide) (by decide), kpv h16 (by decide) (by decide), kpv h17 (by decide) (by decide), kpv h18 (by decide) (by decide), kpv h19 (by decide) (by decide), kpv h20 (by decide) (by decide), kpv h21 (by decide) (by decide), kpv h22 (by decide) (by decide), fun h => by simpa [sput] using h23 (by simpa [did] using h), fun h => by simpa [sput] using h24 (by simpa [did] using h), kpv h25 (by decide) (by decide), fun h => by simpa [sput] using h26 (by simpa [did] using h), fun h => by simpa [sput] using h27 (by simpa [did] using h), fun h => by simpa [sput] using h28 (by simpa [did] using h), kpv h29 (by decide) (by decide), kpv h30 (by decide) (by decide), kpv h31 (by decide) (by decide), hT⟩
    · have g8 := h8 (by simp [hdep])
      have g7 := h7 (by simp [hdep])
      refine stepG_on 7 74 false rfl rfl g7 ?_
      unfold OpSteps
      obtain ⟨p0, p1, p2, p3, p4⟩ := cells5 (Ht8.out.below hT Ht8.out.lt)
      simp [go_sem, evS, g8, g7, p0, p1, p2, p3, p4]
      exact ⟨kpv h0 (by decide) (by decide), kpv h1 (by decide) (by decide), kpv h2 (by decide) (by decide), kpv h3 (by decide) (by decide), kpv h4 (by decide) (by decide), kpv h5 (by decide) (by decide), kpv h6 (by decide) (by decide), kpv h7 (by decide) (by decide), kpv h8 (by decide) (by decide), fun _ => by simp [sput], kpv h10 (by decide) (by decide), kpv h11 (by decide) (by decide), kpv h12 (by decide) (by decide), kpv h13 (by decide) (by decide), kpv h14 (by decide) (by decide), kpv h15 (by decide) (by decide), kpv h16 (by decide) (by decide), kpv h17 (by decide) (by decide), kpv h18 (by decide) (by decide), kpv h19 (by decide) (by decide), kpv h20 (by decide) (by decide), kpv h21 (by decide) (by decide), kpv h22 (by decide) (by decide), fun h => by simpa [sput] using h23 (by simpa [did] using h), fun h => by simpa [sput] using h24 (by simpa [did] using h), kpv h25 (by decide) (by decide), fun h => by simpa [sput] using h26 (by simpa [did] using h), fun h => by simpa [sput] using h27 (by simpa [did] using h), fun h => by simpa [sput] using h28 (by simpa [did] using h), kpv h29 (by decide) (by decide), kpv h30 (by decide) (by decide), kpv h31 (by decide) (by decide), hT⟩
    · have g7 := h7 (by simp [hdep])
      refine stepG_on 7 74 false rfl rfl g7 ?_
      unfold OpSteps
      simp [go_sem, evS, f3, g7]
      exact ⟨kpv h0 (by decide) (by decide), kpv h1 (by decide) (by decide), kpv h2 (by decide) (by decide), kpv h3 (by decide) (by decide), kpv h4 (by decide) (by decide), kpv h5 (by decide) (by decide), kpv h6 (by decide) (by decide), kpv h7 (by decide) (by decide), kpv h8 (by decide) (by decide), kpv h9 (by decide) (by decide), fun _ => by simp [sput], kpv h11 (by decide) (by decide), kpv h12 (by decide) (by decide), kpv h13 (by decide) (by decide), kpv h14 (by decide) (by decide), kpv h15 (by decide) (by decide), kpv h16 (by decide) (by decide), kpv h17 (by decide) (by decide), kpv h18 (by decide) (by decide), kpv h19 (by decide) (by decide), kpv h20 (by decide) (by decide), kpv h21 (by decide) (by decide), kpv h22 (by decide) (by decide), fun h => by simpa [sput] using h23 (by simpa [did] using h), fun h => by simpa [sput] using h24 (by simpa [did] using h), kpv h25 (by decide) (by decide), fun h => by simpa [sput] using h26 (by simpa [did] using h), fun h => by simpa [sput] using h27 (by simpa [did] using h), fun h => by simpa [sput] using h28 (by simpa [did] using h), kpv h29 (by decide) (by decide), kpv h30 (by decide) (by decide), kpv h31 (by decide) (by decide), hT⟩
    · have g10 := h10 (by simp [hdep])
      have g7 := h7 (by simp [hdep])
      refine stepG_on 7 74 false rfl rfl g7 ?_
      unfold OpSteps
      obtain ⟨p0, p1, p2, p3, p4⟩ := cells5 (Hm8.out.below hT Hm8.out.lt)
      simp [go_sem, evS, g10, g7, p0, p1, p2, p3, p4]
      exact ⟨kpv h0 (by decide) (by decide), kpv h1 (by decide) (by decide), kpv h2 (by decide) (by decide), kpv h3 (by decide) (by decide), kpv h4 (by decide) (by decide), kpv h5 (by decide) (by decide), kpv h6 (by decide) (by decide), kpv h7 (by decide) (by decide), kpv h8 (by decide) (by decide), kpv h9 (by decide) (by decide), kpv h10 (by decide) (by decide), fun _ => by simp [sput], kpv h12 (by decide) (by decide), kpv h13 (by decide) (by decide), kpv h14 (by decide) (by decide), kpv h15 (by decide) (by decide), kpv h16 (by decide) (by decide), kpv h17 (by decide) (by decide), kpv h18 (by decide) (by decide), kpv h19 (by decide) (by decide), kpv h20 (by decide) (by decide), kpv h21 (by decide) (by decide), kpv h22 (by decide) (by decide), fun h => by simpa [sput] using h23 (by simpa [did] using h), fun h => by simpa [sput] using h24 (by simpa [did] using h), kpv h25 (by decide) (by decide), fun h => by simpa [sput] using h26 (by simpa [did] using h), fun h => by simpa [sput] using h27 (by simpa [did] using h), fun h => by simpa [sput] using h28 (by simpa [did] using h), kpv h29 (by decide) (by decide), kpv h30 (by decide) (by decide), kpv h31 (by decide) (by decide), hT⟩
    · have g9 := h9 (by simp [hdep])
      have g11 := h11 (by simp [hdep])
      have g7 := h7 (by simp [hdep])
      refine stepG_on 7 74 false rfl rfl g7 ?_
      unfold OpSteps
      simp [go_sem, evS, g9, g11, g7, tC]
      exact ⟨kpv h0 (by decide) (by decide), kpv h1 (by decide) (by decide), kpv h2 (by decide) (by decide), kpv h3 (by decide) (by decide), kpv h4 (by decide) (by decide), kpv h5 (by decide) (by decide), kpv h6 (by decide) (by decide), kpv h7 (by decide) (by decide), kpv h8 (by decide) (by decide), kpv h9 (by decide) (by decide), kpv h10 (by decide) (by decide), kpv h11 (by decide) (by decide), fun _ => by simp [sput], kpv h13 (by decide) (by decide), kpv h14 (by decide) (by decide), kpv h15 (by decide) (by decide), kpv h16 (by decide) (by decide), kpv h17 (by decide) (by decide), kpv h18 (by decide) (by decide), kpv h19 (by decide) (by decide), kpv h20 (by decide) (by decide), kpv h21 (by decide) (by decide), kpv h22 (by decide) (by decide), fun h => by simpa [sput] using h23 (by simpa [did] using h), fun h => by simpa [sput] using h24 (by simpa [did] using h), kpv h25 (by decide) (by decide), fun h => by simpa [sput] using h26 (by simpa [did] using h), fun h => by simpa [sput] using h27 (by simpa [did] using h), fun h => by simpa [sput] using h28 (by simpa [did] using h), kpv h29 (by decide) (by decide), kpv h30 (by decide) (by decide), kpv h31 (by decide) (by decide), hT⟩
    · have g7 := h7 (by simp [hdep])
      have g12 := h12 (by simp [hdep])
      refine stepG_plain rfl ?_
      unfold OpSteps
      simp [go_sem, evS, g7, g12]
      exact ⟨kpv h0 (by decide) (by decide), kpv h1 (by decide) (by decide), kpv h2 (by decide) (by decide), kpv h3 (by decide) (by decide), kpv h4 (by decide) (by decide), kpv h5 (by decide) (by decide), kpv h6 (by decide) (by decide), kpv h7 (by decide) (by decide), kpv h8 (by decide) (by decide), kpv h9 (by decide) (by decide), kpv h10 (by decide) (by decide), kpv h11 (by decide) (by decide), kpv h12 (by decide) (by decide), fun _ => by simp [sput], kpv h14 (by decide) (by decide), kpv h15 (by decide) (by decide), kpv h16 (by decide) (by decide), kpv h17 (by decide) (by decide), kpv h18 (by decide) (by decide), kpv h19 (by decide) (by decide), kpv h20 (by decide) (by decide), kpv h21 (by decide) (by decide), kpv h22 (by decide) (by decide), fun h => by simpa [sput] using h23 (by simpa [did] using h), fun h => by simpa [sput] using h24 (by simpa [did] using h), kpv h25 (by decide) (by decide), fun h => by simpa [sput] using h26 (by simpa [did] using h), fun h => by simpa [sput] using h27 (by simpa [did] using h), fun h => by simpa [sput] using h28 (by simpa [did] using h), kpv h29 (by decide) (by decide), kpv h30 (by decide) (by decide), kpv h31 (by decide) (by decide), hT⟩
    · have g13 := h13 (by simp [hdep])
      refine stepG_plain rfl ?_
      unfold OpSteps
      simp [go_sem, evS, g13]
      exact ⟨kpv h0 (by decide) (by decide), kpv h1 (by decide) (by decide), kpv h2 (by decide) (by decide), kpv h3 (by decide) (by decide), kpv h4 (by decide) (by decide), kpv h5 (by decide) (by decide), kpv h6 (by decide) (by decide), kpv h7 (by decide) (by decide), kpv h8 (by decide) (by decide), kpv h9 (by decide) (by decide), kpv h10 (by decide) (by decide), kpv h11 (by decide) (by decide), kpv h12 (by decide) (by decide), kpv h13 (by decide) (by decide), fun _ => by simp [sput], kpv h15 (by decide) (by decide), kpv h16 (by decide) (by decide), kpv h17 (by decide) (by decide), kpv h18 (by decide) (by decide), kpv h19 (by decide) (by decide), kpv h20 (by decide) (by decide), kpv h21 (by decide) (by decide), kpv h22 (by decide) (by decide), fun h => by simpa [sput] using h23 (by simpa [did] using h), fun h => by simpa [sput] using h24 (by simpa [did] using h), kpv h25 (by decide) (by decide), fun h => by simpa [sput] using h26 (by simpa [did] using h), fun h => by simpa [sput] using h27 (by simpa [did] using h), fun h => by simpa [sput] using h28 (by simpa [did] using h), kpv h29 (by decide) (by decide), kpv h30 (by decide) (by decide), kpv h31 (by decide) (by decide), hT⟩
    · have g14 := h14 (by simp [hdep])
      refine stepG_on 14 81 false rfl rfl g14 ?_
      unfold OpSteps
      simp [go_sem, evS, f9, g14]
      exact ⟨kpv h0 (by decide) (by decide), kpv h1 (by decide) (by decide), kpv h2 (by decide) (by decide), kpv h3 (by decide) (by decide), kpv h4 (by decide) (by decide), kpv h5 (by decide) (by decide), kpv h6 (by decide) (by decide), kpv h7 (by decide) (by decide), kpv h8 (by decide) (by decide), kpv h9 (by decide) (by decide), kpv h10 (by decide) (by decide), kpv h11 (by decide) (by decide), kpv h12 (by decide) (by decide), kpv h13 (by decide) (by decide), kpv h14 (by decide) (by decide), fun _ => by simp [sput], kpv h16 (by decide) (by decide), kpv h17 (by decide) (by decide), kpv h18 (by decide) (by decide), kpv h19 (by decide) (by decide), kpv h20 (by decide) (by decide), kpv h21 (by decide) (by decide), kpv h22 (by decide) (by decide), fun h => by simpa [sput] using h23 (by simpa [did] using h), fun h => by simpa [sput] using h24 (by simpa [did] using h), kpv h25 (by decide) (by decide), fun h => by simpa [sput] using h26 (by simpa [did] using h), fun h => by simpa [sput] using h27 (by simpa [did] using h), fun h => by simpa [sput] using h28 (by simpa [did] using h), kpv h29 (by decide) (by decide), kpv h30 (by decide) (by decide), kpv h31 (by decide) (by decide), hT⟩
    · have g15 := h15 (by simp [hdep])
      have g14 := h14 (by simp [hdep])
      refine stepG_on 14 81 false rfl rfl g14 ?_
      unfold OpSteps
      obtain ⟨p0, p1, p2, p3, p4⟩ := cells5 (Ht8.out.below hT Ht8.out.lt)
      simp [go_sem, evS, g15, g14, p0, p1, p2, p3, p4]
      exact ⟨kpv h0 (by decide) (by decide), kpv h1 (by decide) (by decide), kpv h2 (by decide) (by decide), kpv h3 (by decide) (by decide), kpv h4 (by decide) (by decide), kpv h5 (by decide) (by decide), kpv h6 (by decide) (by decide), kpv h7 (by decide) (by decide), kpv h8 (by decide) (by decide), kpv h9 (by decide) (by decide), kpv h10 (by decide) (by decide), kpv h11 (by decide) (by decide), kpv h12 (by decide) (by decide), kpv h13 (by decide) (by decide), kpv h14 (by decide) (by decide), kpv h15 (by decide) (by decide), fun _ => by simp [sput], kpv h17 (by decide) (by decide), kpv h18 (by decide) (by decide), kpv h19 (by decide) (by decide), kpv h20 (by decide) (by decide), kpv h21 (by decide) (by decide), kpv h22 (by decide) (by decide), fun h => by simpa [sput] using h23 (by simpa [did] using h), fun h => by simpa [sput] using h24 (by simpa [did] using h), kpv h25 (by decide) (by decide), fun h => by simpa [sput] using h26 (by simpa [did] using h), fun h => by simpa [sput] using h27 (by simpa [did] using h), fun h => by simpa [sput] using h28 (by simpa [did] using h), kpv h29 (by decide) (by decide), kpv h30 (by decide) (by decide), kpv h31 (by decide) (by decide), hT⟩
    · have g14 := h14 (by simp [hdep])
      refine stepG_on 14 81 false rfl rfl g14 ?_
      unfold OpSteps
      simp [go_sem, evS, f3, g14]
      exact ⟨kpv h0 (by decide) (by decide), kpv h1 (by decide) (by decide), kpv h2 (by decide) (by decide), kpv h3 (by decide) (by decide), kpv h4 (by decide) (by decide), kpv h5 (by decide) (by decide), kpv h6 (by decide) (by decide), kpv h7 (by decide) (by decide), kpv h8 (by decide) (by decide), kpv h9 (by decide) (by decide), kpv h10 (by decide) (by decide), kpv h11 (by decide) (by decide), kpv h12 (by decide) (by decide), kpv h13 (by decide) (by decide), kpv h14 (by decide) (by decide), kpv h15 (by decide) (by decide), kpv h16 (by decide) (by decide), fun _ => by simp [sput], kpv h18 (by decide) (by decide), kpv h19 (by decide) (by decide), kpv h20 (by decide) (by decide), kpv h21 (by decide) (by decide), kpv h22 (by decide) (by decide), fun h => by simpa [sput] using h23 (by simpa [did] using h), fun h => by simpa [sput] using h24 (by simpa [did] using h), kpv h25 (by decide) (by decide), fun h => by simpa [sput] using h26 (by simpa [did] using h), fun h => by simpa [sput] using h27 (by simpa [did] using h), fun h => by simpa [sput] using h28 (by simpa [did] using h), kpv h29 (by decide) (by decide), kpv h30 (by decide) (by decide), kpv h31 (by decide) (by decide), hT⟩
    · have g17 := h17 (by simp [hdep])
      have g14 := h14 (by simp [hdep])
      refine stepG_on 14 81 false rfl rfl g14 ?_
      unfold OpSteps
      obtain ⟨p0, p1, p2, p3, p4⟩ := cells5 (Hm8.out.below hT Hm8.out.lt)
      simp [go_sem, evS, g17, g14, p0, p1, p2, p3, p4]
      exact ⟨kpv h0 (by decide) (by decide), kpv h1 (by decide) (by decide), kpv h2 (by decide) (by decide), kpv h3 (by decide) (by decide), kpv h4 (by decide) (by decide), kpv h5 (by decide) (by decide), kpv h6 (by decide) (by decide), kpv h7 (by decide) (by decide), kpv h8 (by decide) (by decide), kpv h9 (by decide) (by decide), kpv h10 (by decide) (by decide), kpv h11 (by decide) (by decide), kpv h12 (by decide) (by decide), kpv h13 (by decide) (by decide), kpv h14 (by decide) (by decide), kpv h15 (by decide) (by decide), kpv h16 (by decide) (by decide), kpv h17 (by decide) (by decide), fun _ => by simp [sput], kpv h19 (by decide) (by decide), kpv h20 (by decide) (by decide), kpv h21 (by decide) (by decide), kpv h22 (by decide) (by decide), fun h => by simpa [sput] using h23 (by simpa [did] using h), fun h => by simpa [sput] using h24 (by simpa [did] using h), kpv h25 (by decide) (by decide), fun h => by simpa [sput] using h26 (by simpa [did] using h), fun h => by simpa [sput] using h27 (by simpa [did] using h), fun h => by simpa [sput] using h28 (by simpa [did] using h), kpv h29 (by decide) (by decide), kpv h30 (by decide) (by decide), kpv h31 (by decide) (by decide), hT⟩
    · have g16 := h16 (by simp [hdep])
      have g18 := h18 (by simp [hdep])
      have g14 := h14 (by simp [hdep])
      refine stepG_on 14 81 false rfl rfl g14 ?_
      unfold OpSteps
      simp [go_sem, evS, g16, g18, g14, tR]
      exact ⟨kpv h0 (by decide) (by decide), kpv h1 (by decide) (by decide), kpv h2 (by decide) (by decide), kpv h3 (by decide) (by decide), kpv h4 (by decide) (by decide), kpv h5 (by decide) (by decide), kpv h6 (by decide) (by decide), kpv h7 (by decide) (by decide), kpv h8 (by decide) (by decide), kpv h9 (by decide) (by decide), kpv h10 (by decide) (by decide), kpv h11 (by decide) (by decide), kpv h12 (by decide) (by decide), kpv h13 (by decide) (by decide), kpv h14 (by decide) (by decide), kpv h15 (by decide) (by decide), kpv h16 (by decide) (by decide), kpv h17 (by decide) (by decide), kpv h18 (by decide) (by decide), fun _ => by simp [sput], kpv h20 (by decide) (by decide), kpv h21 (by decide) (by decide), kpv h22 (by decide) (by decide), fun h => by simpa [sput] using h23 (by simpa [did] using h), fun h => by simpa [sput] using h24 (by simpa [did] using h), kpv h25 (by decide) (by decide), fun h => by simpa [sput] using h26 (by simpa [did] using h), fun h => by simpa [sput] using h27 (by simpa [did] using h), fun h => by simpa [sput] using h28 (by simpa [did] using h), kpv h29 (by decide) (by decide), kpv h30 (by decide) (by decide), kpv h31 (by decide) (by decide), hT⟩
    · have g14 := h14 (by simp [hdep])
      have g19 := h19 (by simp [hdep])
      refine stepG_plain rfl ?_
      unfold OpSteps
      simp [go_sem, evS, g14, g19]
      exact ⟨kpv h0 (by decide) (by decide), kpv h1 (by decide) (by decide), kpv h2 (by decide) (by decide), kpv h3 (by decide) (by decide), kpv h4 (by decide) (by decide), kpv h5 (by decide) (by decide), kpv h6 (by decide) (by decide), kpv h7 (by decide) (by decide), kpv h8 (by decide) (by decide), kpv h9 (by decide) (by decide), kpv h10 (by decide) (by decide), kpv h11 (by decide) (by decide), kpv h12 (by decide) (by decide), kpv h13 (by decide) (by decide), kpv h14 (by decide) (by decide), kpv h15 (by decide) (by decide), kpv h16 (by decide) (by decide), kpv h17 (by decide) (by decide), kpv h18 (by decide) (by decide), kpv h19 (by decide) (by decide), fun _ => by simp [sput], kpv h21 (by decide) (by decide), kpv h22 (by decide) (by decide), fun h => by simpa [sput] using h23 (by simpa [did] using h), fun h => by simpa [sput] using h24 (by simpa [did] using h), kpv h25 (by decide) (by decide), fun h => by simpa [sput] using h26 (by simpa [did] using h), fun h => by simpa [sput] using h27 (by simpa [did] using h), fun h => by simpa [sput] using h28 (by simpa [did] using h), kpv h29 (by decide) (by decide), kpv h30 (by decide) (by decide), kpv h31 (by decide) (by decide), hT⟩
    · have g20 := h20 (by simp [hdep])
      refine stepG_plain rfl ?_
      unfold OpSteps
      simp [go_sem, evS, g20]
      exact ⟨kpv h0 (by decide) (by decide), kpv h1 (by decide) (by decide), kpv h2 (by decide) (by decide), kpv h3 (by decide) (by decide), kpv h4 (by decide) (by decide), kpv h5 (by decide) (by decide), kpv h6 (by decide) (by decide), kpv h7 (by decide) (by decide), kpv h8 (by decide) (by decide), kpv h9 (by decide) (by decide), kpv h10 (by decide) (by decide), kpv h11 (by decide) (by decide), kpv h12 (by decide) (by decide), kpv h13 (by decide) (by decide), kpv h14 (by decide) (by decide), kpv h15 (by decide) (by decide), kpv h16 (by decide) (by decide), kpv h17 (by decide) (by decide), kpv h18 (by decide) (by decide), kpv h19 (by decide) (by decide), kpv h20 (by decide) (by decide), fun _ => by simp [sput], kpv h22 (by decide) (by decide), fun h => by simpa [sput] using h23 (by simpa [did] using h), fun h => by simpa [sput] using h24 (by simpa [did] using h), kpv h25 (by decide) (by decide), fun h => by simpa [sput] using h26 (by simpa [did] using h), fun h => by simpa [sput] using h27 (by simpa [did] using h), fun h => by simpa [sput] using h28 (by simpa [did] using h), kpv h29 (by decide) (by decide), kpv h30 (by decide) (by decide), kpv h31 (by decide) (by decide), hT⟩
    · have g21 := h21 (by simp [hdep])
      refine stepG_on 21 88 false rfl rfl g21 ?_
      unfold OpSteps
      obtain ⟨p0, p1, p2, p3, p4⟩ := cells5 (Ht8.out.below hT Ht8.out.lt)
      simp [go_sem, evS, f9, g21, p0, p1, p2, p3, p4]
      exact ⟨kpv h0 (by decide) (by decide), kpv h1 (by decide) (by decide), kpv h2 (by decide) (by decide), kpv h3 (by decide) (by decide), kpv h4 (by decide) (by decide), kpv h5 (by decide) (by decide), kpv h6 (by decide) (by decide), kpv h7 (by decide) (by decide), kpv h8 (by decide) (by decide), kpv h9 (by decide) (by decide), kpv h10 (by decide) (by decide), kpv h11 (by decide) (by decide), kpv h12 (by decide) (by decide), kpv h13 (by decide) (by decide), kpv h14 (by decide) (by decide), kpv h15 (by decide) (by decide), kpv h16 (by decide) (by decide), kpv h17 (by decide) (by decide), kpv h18 (by decide) (by decide), kpv h19 (by decide) (by decide), kpv h20 (by decide) (by decide), kpv h21 (by decide) (by decide), fun _ => by simp [sput], fun h => by simpa [sput] using h23 (by simpa [did] using h), fun h => by simpa [sput] using h24 (by simpa [did] using h), kpv h25 (by decide) (by decide), fun h => by simpa [sput] using h26 (by simpa [did] using h), fun h => by simpa [sput] using h27 (by simpa [did] using h), fun h => by simpa [sput] using h28 (by simpa [did] using h), kpv h29 (by decide) (by decide), kpv h30 (by decide) (by decide), kpv h31 (by decide) (by decide), hT⟩
    · have g22 := h22 (by simp [hdep])
      have g21 := h21 (by simp [hdep])
      refine stepG_on 21 88 false rfl rfl g21 ?_
      unfold OpSteps
      simp [go_sem, evS, g22, g21]
      refine (HOt.out gt Mt W HDt.out (Hu8.out.nxt hT)).mono ?_
      rintro e W' ⟨g9, T9, rfl, hS9, hr9, hb⟩
      refine ⟨_, rfl, ?_⟩
      exact ⟨kpv h0 (by decide) (by decide), kpv h1 (by decide) (by decide), kpv h2 (by decide) (by decide), kpv h3 (by decide) (by decide), kpv h4 (by decide) (by decide), kpv h5 (by decide) (by decide), kpv h6 (by decide) (by decide), kpv h7 (by decide) (by decide), kpv h8 (by decide) (by decide), kpv h9 (by decide) (by decide), kpv h10 (by decide) (by decide), kpv h11 (by decide) (by decide), kpv h12 (by decide) (by decide), kpv h13 (by decide) (by decide), kpv h14 (by decide) (by decide), kpv h15 (by decide) (by decide), kpv h16 (by decide) (by decide), kpv h17 (by decide) (by decide), kpv h18 (by decide) (by decide), kpv h19 (by decide) (by decide), kpv h20 (by decide) (by decide), kpv h21 (by decide) (by decide), kpv h22 (by decide) (by decide), fun _ => ⟨g9, N, T9, by simp [sput], hS9, hr9⟩, fun h => by simpa [sput] using (h24 (by simpa [did] using h)).below hb, kpv h25 (by decide) (by decide), fun h => by simpa [sput] using (h26 (by simpa [did] using h)).below hb, fun h => by simpa [sput] using (h27 (by simpa [did] using h)).below hb, fun h => by simpa [sput] using (h28 (by simpa [did] using h)).below hb, kpv h29 (by decide) (by decide), kpv h30 (by decide) (by decide), kpv h31 (by decide) (by decide), below_nx hT hb⟩
    · have g23 := h23 (by simp [hdep])
      have g21 := h21 (by simp [hdep])
      refine stepG_on 21 88 false rfl rfl g21 ?_
      unfold OpSteps
      obtain ⟨g9, c9, T9, gv, gS, gR⟩ := g23
      simp [go_sem, evS, g21, gv]
      exact ⟨kpv h0 (by decide) (by decide), kpv h1 (by decide) (by decide), kpv h2 (by decide) (by decide), kpv h3 (by decide) (by decide), kpv h4 (by decide) (by decide), kpv h5 (by decide) (by decide), kpv h6 (by decide) (by decide), kpv h7 (by decide) (by decide), kpv h8 (by decide) (by decide), kpv h9 (by decide) (by decide), kpv h10 (by decide) (by decide), kpv h11 (by decide) (by decide), kpv h12 (by decide) (by decide), kpv h13 (by decide) (by decide), kpv h14 (by decide) (by decide), kpv h15 (by decide) (by decide), kpv h16 (by decide) (by decide), kpv h17 (by decide) (by decide), kpv h18 (by decide) (by decide), kpv h19 (by decide) (by decide), kpv h20 (by decide) (by decide), kpv h21 (by decide) (by decide), kpv h22 (by decide) (by decide), fun h => by simpa [sput] using h23 (by simpa [did] using h), fun _ => ⟨some ⟨g9, 0, none⟩, c9, T9, by simp [sput], gS, gR⟩, kpv h25 (by decide) (by decide), fun h => by simpa [sput] using h26 (by simpa [did] using h), fun h => by simpa [sput] using h27 (by simpa [did] using h), fun h => by simpa [sput] using h28 (by simpa [did] using h), kpv h29 (by decide) (by decide), kpv h30 (by decide) (by decide), kpv h31 (by decide) (by decide), hT⟩
    · have g21 := h21 (by simp [hdep])
      refine stepG_on 21 88 false rfl rfl g21 ?_
      unfold OpSteps
      obtain ⟨p0, p1, p2, p3, p4⟩ := cells5 (Hm8.out.below hT Hm8.out.lt)
      simp [go_sem, evS, f3, g21, p0, p1, p2, p3, p4]
      exact ⟨kpv h0 (by decide) (by decide), kpv h1 (by decide) (by decide), kpv h2 (by decide) (by decide), kpv h3 (by decide) (by decide), kpv h4 (by decide) (by decide), kpv h5 (by decide) (by decide), kpv h6 (by decide) (by decide), kpv h7 (by decide) (by decide), kpv h8 (by decide) (by decide), kpv h9 (by decide) (by decide), kpv h10 (by decide) (by decide), kpv h11 (by decide) (by decide), kpv h12 (by decide) (by decide), kpv h13 (by decide) (by decide), kpv h14 (by decide) (by decide), kpv h15 (by decide) (by decide), kpv h16 (by decide) (by decide), kpv h17 (by decide) (by decide), kpv h18 (by decide) (by decide), kpv h19 (by decide) (by decide), kpv h20 (by decide) (by decide), kpv h21 (by decide) (by decide), kpv h22 (by decide) (by decide), fun h => by simpa [sput] using h23 (by simpa [did] using h), fun h => by simpa [sput] using h24 (by simpa [did] using h), fun _ => by simp [sput], fun h => by simpa [sput] using h26 (by simpa [did] using h), fun h => by simpa [sput] using h27 (by simpa [did] using h), fun h => by simpa [sput] using h28 (by simpa [did] using h), kpv h29 (by decide) (by decide), kpv h30 (by decide) (by decide), kpv h31 (by decide) (by decide), hT⟩
    · have g25 := h25 (by simp [hdep])
      have g21 := h21 (by simp [hdep])
      refine stepG_on 21 88 false rfl rfl g21 ?_
      unfold OpSteps
      simp [go_sem, evS, g25, g21]
      refine (HOm.out W (below_nx HB8.out hT)).mono ?_
      rintro e W' ⟨g9, T9, rfl, hS9, hr9, hb⟩
      refine ⟨_, rfl, ?_⟩
      exact ⟨kpv h0 (by decide) (by decide), kpv h1 (by decide) (by decide), kpv h2 (by decide) (by decide), kpv h3 (by decide) (by decide), kpv h4 (by decide) (by decide), kpv h5 (by decide) (by decide), kpv h6 (by decide) (by decide), kpv h7 (by decide) (by decide), kpv h8 (by decide) (by decide), kpv h9 (by decide) (by decide), kpv h10 (by decide) (by decide), kpv h11 (by decide) (by decide), kpv h12 (by decide) (by decide), kpv h13 (by decide) (by decide), kpv h14 (by decide) (by decide), kpv h15 (by decide) (by decide), kpv h16 (by decide) (by decide), kpv h17 (by decide) (by decide), kpv h18 (by decide) (by decide), kpv h19 (by decide) (by decide), kpv h20 (by decide) (by decide), kpv h21 (by decide) (by decide), kpv h22 (by decide) (by decide), fun h => by simpa [sput] using (h23 (by simpa [did] using h)).below hb, fun h => by simpa [sput] using (h24 (by simpa [did] using h)).below hb, kpv h25 (by decide) (by decide), fun _ => ⟨g9, N, T9, by simp [sput], hS9, hr9⟩, fun h => by simpa [sput] using (h27 (by simpa [did] using h)).below hb, fun h => by simpa [sput] using (h28 (by simpa [did] using h)).below hb, kpv h29 (by decide) (by decide), kpv h30 (by decide) (by decide), kpv h31 (by decide) (by decide), below_nx hT hb⟩
    · have g26 := h26 (by simp [hdep])
      have g21 := h21 (by simp [hdep])
      refine stepG_on 21 88 false rfl rfl g21 ?_
      unfold OpSteps
      obtain ⟨g8, c8, T8, gv, gS, gR⟩ := g26
      simp [go_sem, evS, g21, gv]
      refine (HRt.out g8 c8 T8 W gS gR).mono ?_
      rintro e W' ⟨g9, c9, T9, rfl, hS9, hr9, hb⟩
      refine ⟨_, rfl, ?_⟩
      exact ⟨kpv h0 (by decide) (by decide), kpv h1 (by decide) (by decide), kpv h2 (by decide) (by decide), kpv h3 (by decide) (by decide), kpv h4 (by decide) (by decide), kpv h5 (by decide) (by decide), kpv h6 (by decide) (by decide), kpv h7 (by decide) (by decide), kpv h8 (by decide) (by decide), kpv h9 (by decide) (by decide), kpv h10 (by decide) (by decide), kpv h11 (by decide) (by decide), kpv h12 (by decide) (by decide), kpv h13 (by decide) (by decide), kpv h14 (by decide) (by decide), kpv h15 (by decide) (by decide), kpv h16 (by decide) (by decide), kpv h17 (by decide) (by decide), kpv h18 (by decide) (by decide), kpv h19 (by decide) (by decide), kpv h20 (by decide) (by decide), kpv h21 (by decide) (by decide), kpv h22 (by decide) (by decide), fun h => by simpa [sput] using (h23 (by simpa [did] using h)).below hb, fun h => by simpa [sput] using (h24 (by simpa [did] using h)).below hb, kpv h25 (by decide) (by decide), fun h => by simpa [sput] using (h26 (by simpa [did] using h)).below hb, fun _ => ⟨g9, c9, T9, by simp [sput], hS9, hr9⟩, fun h => by simpa [sput] using (h28 (by simpa [did] using h)).below hb, kpv h29 (by decide) (by decide), kpv h30 (by decide) (by decide), kpv h31 (by decide) (by decide), below_nx hT hb⟩
    · have g27 := h27 (by simp [hdep])
      have g21 := h21 (by simp [hdep])
      refine stepG_on 21 88 false rfl rfl g21 ?_
      unfold OpSteps
      obtain ⟨g9, c9, T9, gv, gS, gR⟩ := g27
      simp [go_sem, evS, g21, gv]
      exact ⟨kpv h0 (by decide) (by decide), kpv h1 (by decide) (by decide), kpv h2 (by decide) (by decide), kpv h3 (by decide) (by decide), kpv h4 (by decide) (by decide), kpv h5 (by decide) (by decide), kpv h6 (by decide) (by decide), kpv h7 (by decide) (by decide), kpv h8 (by decide) (by decide), kpv h9 (by decide) (by decide), kpv h10 (by decide) (by decide), kpv h11 (by decide) (by decide), kpv h12 (by decide) (by decide), kpv h13 (by decide) (by decide), kpv h14 (by decide) (by decide), kpv h15 (by decide) (by decide), kpv h16 (by decide) (by decide), kpv h17 (by decide) (by decide), kpv h18 (by decide) (by decide), kpv h19 (by decide) (by decide), kpv h20 (by decide) (by decide), kpv h21 (by decide) (by decide), kpv h22 (by decide) (by decide), fun h => by simpa [sput] using h23 (by simpa [did] using h), fun h => by simpa [sput] using h24 (by simpa [did] using h), kpv h25 (by decide) (by decide), fun h => by simpa [sput] using h26 (by simpa [did] using h), fun h => by simpa [sput] using h27 (by simpa [did] using h), fun _ => ⟨some ⟨g9, 0, none⟩, c9, T9, by simp [sput], gS, gR⟩, kpv h29 (by decide) (by decide), kpv h30 (by decide) (by decide), kpv h31 (by decide) (by decide), hT⟩
    · have g24 := h24 (by simp [hdep])
      have g28 := h28 (by simp [hdep])
      have g21 := h21 (by simp [hdep])
      refine stepG_on 21 88 false rfl rfl g21 ?_
      unfold OpSteps
      obtain ⟨A9, a9, X9, gv, gS, gR⟩ := g24
      obtain ⟨B9, b9, Y9, gv2, gS2, gR2⟩ := g28
      simp [go_sem, evS, g21, gv, gv2]
      refine (HAlF.out W A9 B9 a9 b9 X9 Y9 gS gS2 gR gR2).mono ?_
      rintro e W' ⟨rfl, hb⟩
      refine ⟨_, rfl, ?_⟩
      exact ⟨kpv h0 (by decide) (by decide), kpv h1 (by decide) (by decide), kpv h2 (by decide) (by decide), kpv h3 (by decide) (by decide), kpv h4 (by decide) (by decide), kpv h5 (by decide) (by decide), kpv h6 (by decide) (by decide), kpv h7 (by decide) (by decide), kpv h8 (by decide) (by decide), kpv h9 (by decide) (by decide), kpv h10 (by decide) (by decide), kpv h11 (by decide) (by decide), kpv h12 (by decide) (by decide), kpv h13 (by decide) (by decide), kpv h14 (by decide) (by decide), kpv h15 (by decide) (by decide), kpv h16 (by decide) (by decide), kpv h17 (by decide) (by decide), kpv h18 (by decide) (by decide), kpv h19 (by decide) (by decide), kpv h20 (by decide) (by decide), kpv h21 (by decide) (by decide), kpv h22 (by decide) (by decide), fun h => by simpa [sput] using (h23 (by simpa [did] using h)).below hb, fun h => by simpa [sput] using (h24 (by simpa [did] using h)).below hb, kpv h25 (by decide) (by decide), fun h => by simpa [sput] using (h26 (by simpa [did] using h)).below hb, fun h => by simpa [sput] using (h27 (by simpa [did] using h)).below hb, fun h => by simpa [sput] using (h28 (by simpa [did] using h)).below hb, fun _ => by simp [sput], kpv h30 (by decide) (by decide), kpv h31 (by decide) (by decide), below_nx hT hb⟩
    · have g29 := h29 (by simp [hdep])
      have g21 := h21 (by simp [hdep])
      refine stepG_on 21 88 false rfl rfl g21 ?_
      unfold OpSteps
      simp [go_sem, evS, g29, g21]
      exact ⟨kpv h0 (by decide) (by decide), kpv h1 (by decide) (by decide), kpv h2 (by decide) (by decide), kpv h3 (by decide) (by decide), kpv h4 (by decide) (by decide), kpv h5 (by decide) (by decide), kpv h6 (by decide) (by decide), kpv h7 (by decide) (by decide), kpv h8 (by decide) (by decide), kpv h9 (by decide) (by decide), kpv h10 (by decide) (by decide), kpv h11 (by decide) (by decide), kpv h12 (by decide) (by decide), kpv h13 (by decide) (by decide), kpv h14 (by decide) (by decide), kpv h15 (by decide) (by decide), kpv h16 (by decide) (by decide), kpv h17 (by decide) (by decide), kpv h18 (by decide) (by decide), kpv h19 (by decide) (by decide), kpv h20 (by decide) (by decide), kpv h21 (by decide) (by decide), kpv h22 (by decide) (by decide), fun h => by simpa [sput] using h23 (by simpa [did] using h), fun h => by simpa [sput] using h24 (by simpa [did] using h), kpv h25 (by decide) (by decide), fun h => by simpa [sput] using h26 (by simpa [did] using h), fun h => by simpa [sput] using h27 (by simpa [did] using h), fun h => by simpa [sput] using h28 (by simpa [did] using h), kpv h29 (by decide) (by decide), fun _ => by simp [sput], kpv h31 (by decide) (by decide), hT⟩
    · have g21 := h21 (by simp [hdep])
      have g30 := h30 (by simp [hdep])
      refine stepG_plain rfl ?_
      unfold OpSteps
      simp [go_sem, evS, g21, g30]
      exact ⟨kpv h0 (by decide) (by decide), kpv h1 (by decide) (by decide), kpv h2 (by decide) (by decide), kpv h3 (by decide) (by decide), kpv h4 (by decide) (by decide), kpv h5 (by decide) (by decide), kpv h6 (by decide) (by decide), kpv h7 (by decide) (by decide), kpv h8 (by decide) (by decide), kpv h9 (by decide) (by decide), kpv h10 (by decide) (by decide), kpv h11 (by decide) (by decide), kpv h12 (by decide) (by decide), kpv h13 (by decide) (by decide), kpv h14 (by decide) (by decide), kpv h15 (by decide) (by decide), kpv h16 (by decide) (by decide), kpv h17 (by decide) (by decide), kpv h18 (by decide) (by decide), kpv h19 (by decide) (by decide), kpv h20 (by decide) (by decide), kpv h21 (by decide) (by decide), kpv h22 (by decide) (by decide), fun h => by simpa [sput] using h23 (by simpa [did] using h), fun h => by simpa [sput] using h24 (by simpa [did] using h), kpv h25 (by decide) (by decide), fun h => by simpa [sput] using h26 (by simpa [did] using h), fun h => by simpa [sput] using h27 (by simpa [did] using h), fun h => by simpa [sput] using h28 (by simpa [did] using h), kpv h29 (by decide) (by decide), kpv h30 (by decide) (by decide), fun _ => by simp [sput], hT⟩
  intro d s W hJ hd
  obtain ⟨h0, h1, h2, h3, h4, h5, h6, h7, h8, h9, h10, h11, h12, h13, h14, h15, h16, h17, h18, h19, h20, h21, h22, h23, h24, h25, h26, h27, h28, h29, h30, h31, hT⟩ := hJ
  have hs98 := h31 (hd 31 (by decide))
  have hb : Below w8.heap.size w8 W := hT
  clear h0 h1 h2 h3 h4 h5 h6 h7 h8 h9 h10 h11 h12 h13 h14 h15 h16 h17 h18 h19 h20 h21 h22 h23 h24 h25 h26 h27 h28 h29 h30 h31 hT hd
  simp [setAll, hs98]
  clear hs98
  generalize s 67 = s67
  generalize s 68 = s68
  generalize s 69 = s69
  generalize s 70 = s70
  generalize s 71 = s71
  generalize s 72 = s72
  generalize s 73 = s73
  generalize s 74 = s74
  generalize s 75 = s75
  generalize s 76 = s76
  generalize s 77 = s77
  generalize s 78 = s78
  generalize s 79 = s79
  generalize s 80 = s80
  generalize s 81 = s81
  generalize s 82 = s82
  generalize s 83 = s83
  generalize s 84 = s84
  generalize s 85 = s85
  generalize s 86 = s86
  generalize s 87 = s87
  generalize s 88 = s88
  generalize s 89 = s89
  generalize s 90 = s90
  generalize s 91 = s91
  generalize s 92 = s92
  generalize s 93 = s93
  generalize s 94 = s94
  generalize s 95 = s95
  generalize s 96 = s96
  generalize s 97 = s97
  generalize W = wx at *
  have Hm9 := Lib.hid (Hm8.out.nxt hb)
  have Hk9 := Lib.hid (Hk8.out.nxt hb)
  have Ht9 := Lib.hid (Ht8.out.nxt hb)
  have Hn9 := Lib.hid (Hn8.out.nxt hb)
  have Hu9 := Lib.hid (Hu8.out.nxt hb)
  have HB9 := Lib.hid (below_nx HB8.out hb)
  clear hb
  clear m0 m1 m2 m3 m4 k0 k1 k2 k3 k4 t0 t1 t2 t3 t4
  obtain ⟨m0, m1, m2, m3, m4⟩ := cells5 Hm9.out
  obtain ⟨k0, k1, k2, k3, k4⟩ := cells5 Hk9.out
  obtain ⟨t0, t1, t2, t3, t4⟩ := cells5 Ht9.out
  rcases hbb with rfl | ⟨rfl, rfl⟩
  · skip
    go_wp2_with fail
    refine (HAll.out _ _ _ _ _ Hn9.out.row (HAm.out.below HB9.out)).mono ?_
    rintro e w9 ⟨rfl, hb⟩
    have Hm10 := Lib.hid (Hm9.out.nxt hb)
    have Hk10 := Lib.hid (Hk9.out.nxt hb)
    have Ht10 := Lib.hid (Ht9.out.nxt hb)
    have Hn10 := Lib.hid (Hn9.out.nxt hb)
    have Hu10 := Lib.hid (Hu9.out.nxt hb)
    have HB10 := Lib.hid (below_nx HB9.out hb)
    clear hb
    clear m0 m1 m2 m3 m4 k0 k1 k2 k3 k4 t0 t1 t2 t3 t4
    obtain ⟨m0, m1, m2, m3, m4⟩ := cells5 Hm10.out
    obtain ⟨k0, k1, k2, k3, k4⟩ := cells5 Hk10.out
    obtain ⟨t0, t1, t2, t3, t4⟩ := cells5 Ht10.out
    go_wp2_with fail
    refine (awake8_any _).mono ?_
    rintro e wa ⟨rfl, hb⟩
    have Hm11 := Lib.hid (Hm10.out.nxt hb)
    have Hk11 := Lib.hid (Hk10.out.nxt hb)
    have Ht11 := Lib.hid (Ht10.out.nxt hb)
    have Hn11 := Lib.hid (Hn10.out.nxt hb)
    have Hu11 := Lib.hid (Hu10.out.nxt hb)
    have HB11 := Lib.hid (below_nx HB10.out hb)
    clear hb
    clear m0 m1 m2 m3 m4 k0 k1 k2 k3 k4 t0 t1 t2 t3 t4
    obtain ⟨m0, m1, m2, m3, m4⟩ := cells5 Hm11.out
    obtain ⟨k0, k1, k2, k3, k4⟩ := cells5 Hk11.out
    obtain ⟨t0, t1, t2, t3, t4⟩ := cells5 Ht11.out
    go_wp2_with fail
    go_ret
    exact ⟨rfl, HB11.out⟩
  · skip
    go_wp2_with fail
    refine (HAll.out _ _ _ _ _ Hn9.out.row (HAm.out.below HB9.out)).mono ?_
    rintro e w9 ⟨rfl, hb⟩
    have Hm10 := Lib.hid (Hm9.out.nxt hb)
    have Hk10 := Lib.hid (Hk9.out.nxt hb)
    have Ht10 := Lib.hid (Ht9.out.nxt hb)
    have Hn10 := Lib.hid (Hn9.out.nxt hb)
    have Hu10 := Lib.hid (Hu9.out.nxt hb)
    have HB10 := Lib.hid (below_nx HB9.out hb)
    clear hb
    clear m0 m1 m2 m3 m4 k0 k1 k2 k3 k4 t0 t1 t2 t3 t4
    obtain ⟨m0, m1, m2, m3, m4⟩ := cells5 Hm10.out
    obtain ⟨k0, k1, k2, k3, k4⟩ := cells5 Hk10.out
    obtain ⟨t0, t1, t2, t3, t4⟩ := cells5 Ht10.out
    go_wp2_with fail
    refine (awake8_any _).mono ?_
    rintro e wa ⟨rfl, hb⟩
    have Hm11 := Lib.hid (Hm10.out.nxt hb)
    have Hk11 := Lib.hid (Hk10.out.nxt hb)
    have Ht11 := Lib.hid (Ht10.out.nxt hb)
    have Hn11 := Lib.hid (Hn10.out.nxt hb)
    have Hu11 := Lib.hid (Hu10.out.nxt hb)
    have HB11 := Lib.hid (below_nx HB10.out hb)
    clear hb
    clear m0 m1 m2 m3 m4 k0 k1 k2 k3 k4 t0 t1 t2 t3 t4
    obtain ⟨m0, m1, m2, m3, m4⟩ := cells5 Hm11.out
    obtain ⟨k0, k1, k2, k3, k4⟩ := cells5 Hk11.out
    obtain ⟨t0, t1, t2, t3, t4⟩ := cells5 Ht11.out
    go_wp2_with fail
    go_ret
    exact ⟨rfl, HB11.out⟩
end Go.Proofs.Ytmjaakngiilmdaa
