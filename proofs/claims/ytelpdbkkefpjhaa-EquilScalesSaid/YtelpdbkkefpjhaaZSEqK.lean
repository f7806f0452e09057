/-
EquilScales. Conditions: none.
-/
import Derived.Test.YtelpdbkkefpjhaaZSEqK0
import Derived.Test.YtelpdbkkefpjhaaZSEqL
import Derived.Test.YtelpdbkkefpjhaaZSGrK
set_option linter.unusedVariables false
set_option linter.unusedSimpArgs false
set_option linter.unnecessarySimpa false
namespace Go.Proofs.Ytelpdbkkefpjhaa
open Go.RowKit
attribute [local go_sem ↓] Go.wp_at_zero Go.wp_at_succ

theorem ShfS.uniq {zr zc : List Int} {l : List Nat} {o R C L N : Nat} {X Y : List Nat} (hN : R * C = N) (h : ShfS zr zc l o R C L N X) (k : ShfS zr zc l o R C L N Y) : X = Y := by
  refine ext_getD (h.1.trans k.1.symm) fun x hx => ?_
  rw [h.1, ← hN] at hx
  have hC : 0 < C := by
    rcases Nat.eq_zero_or_pos C with e | e
    · subst e; simp at hx
    · exact e
  have e : x / C * C + x % C = x := by rw [Nat.mul_comm]; exact Nat.div_add_mod x C
  have h1 := h.2 _ (Nat.div_lt_of_lt_mul (by rw [Nat.mul_comm]; exact hx)) _ (Nat.mod_lt x hC)
  have h2 := k.2 _ (Nat.div_lt_of_lt_mul (by rw [Nat.mul_comm]; exact hx)) _ (Nat.mod_lt x hC)
  rw [e] at h1 h2
  rw [h1, h2]
theorem ShfS.wds {zr zc : List Int} {l : List Nat} {o R C L N : Nat} {X : List Nat} (hN : R * C = N) (hl : Wds l) (h : ShfS zr zc l o R C L N X) : Wds X := by
  refine wds_of_getD fun x hx => ?_
  rw [h.1, ← hN] at hx
  have hC : 0 < C := by
    rcases Nat.eq_zero_or_pos C with e | e
    · subst e; simp at hx
    · exact e
  have e : x / C * C + x % C = x := by rw [Nat.mul_comm]; exact Nat.div_add_mod x C
  have h1 := h.2 _ (Nat.div_lt_of_lt_mul (by rw [Nat.mul_comm]; exact hx)) _ (Nat.mod_lt x hC)
  rw [e] at h1
  rw [h1]; exact Fl.scale_lt (getD_wds hl _) _
theorem ShfS.of_prog {zr zc : List Int} {l M T : List Nat} {o R C L D N : Nat} (hN : R * C = N) (h : SclS zr zc l o R C L D N M) (ht : Tab M 0 R C D N T) : ShfS zr zc l o R C L N T :=
  ⟨by rw [ht.1, hN], fun i hi j hj => by rw [tab_get ht hN hi hj, Nat.zero_add, h.2 i hi j hj]⟩
theorem SclS.len {zr zc : List Int} {l : List Nat} {o R C L D N : Nat} {M : List Nat} (h : SclS zr zc l o R C L D N M) : M.length = N := h.1

set_option maxRecDepth 100000 in
set_option maxHeartbeats 8000000 in
theorem equilScales_ok (Am : Option Addr) (nm cm : Nat) (lm : List Nat) (o R C L : Nat)  (B : Option Addr) (rc : Nat) (zr : List Int) (E : Option Addr) (kc : Nat) (zc : List Int) (w : World) (hA : Row w Am (f64s lm)) (hW : Wds lm) (hl : lm.length = nm) (hn : nm ≤ 1000) (hG : greatB nm (R : Int) (C : Int) = false) (hM20 : R ≤ 20 ∧ C ≤ 20) (ho : I64 (o : Int)) (hi : I64 (L : Int)) (hL1 : 1 ≤ L) (hRL : R ≤ L) (hmr : R = 0 ∨ C = 0 ∨ o + (C - 1) * L + (R - 1) < nm) (hZr : Row w B (i64s zr)) (hzr : zr.length = R) (hZc : Row w E (i64s zc)) (hzc : zc.length = C) :
    Calls Try.prog 4 #[mat Am nm cm o R C L, .slice B R rc, .slice E C kc] w fun e w' => e = .returned (.bool true) ∧ Below w.heap.size w w' := by
  have hr : I64 (R : Int) := by unfold I64; omega
  have hk : I64 (C : Int) := by unfold I64; omega
  have hgd : matB nm (o : Int) (R : Int) (C : Int) (L : Int) = true := mat_right hL1 hRL hmr
  have HGr := Lib.hid (fun W => great_any Am nm cm o R C L W)
  rw [hG] at HGr
  have HAp := Lib.hid (fun W (hb : Below w.heap.size w W) => show Calls Try.prog 14 #[mat Am nm cm o R C L] W fun e w' => ∃ g c', nm ≤ c' ∧ e = .returned (mat (some ⟨g, 0, none⟩) nm c' o R C L) ∧ Own w' g lm ∧ W.heap.size ≤ g ∧ Below W.heap.size W w' from by
    have := rapart_any Am cm lm o R C L W (hA.below hb) (by omega)
    rw [hl] at this
    exact this.mono fun e w' ⟨g, c', e1, e2, e3, h5, _, e4⟩ => ⟨g, c', h5, e1, e2, e3, e4⟩)
  have HGd := Lib.hid (fun W => rgood_any Am nm cm o R C L W (by omega) ho hr hk hi)
  rw [hgd] at HGd
  have HAm := Lib.hid hA
  have HAll := Lib.hid (fun W (A B : Option Addr) (c d : Nat) (h1 : Row W A (f64s lm)) (h2 : Row W B (f64s lm)) => show Calls Try.prog 17 #[.slice A nm c, .slice B nm d] W fun e w' => e = .returned (.bool true) ∧ Below W.heap.size W w' from by
    have := rall_any A B c d lm lm W hW hW h1 h2 (by omega) (Alike.refl lm)
    rw [hl] at this; exact this)
  have d1 : decide ((60 : Int) < (R : Int)) = false := by simp; omega
  have d2 : decide ((60 : Int) < (C : Int)) = false := by simp; omega
  obtain ⟨N, hN⟩ : ∃ N, R * C = N := ⟨_, rfl⟩
  obtain ⟨D, hD⟩ : ∃ D, max 1 R = D := ⟨_, rfl⟩
  obtain ⟨xb, hxb⟩ : ∃ b, exB zr zc (tX lm o L) R C = b := ⟨_, rfl⟩
  have hN20 : N < 1048576 := by
    have h1 : R * C ≤ 20 * 20 := Nat.mul_le_mul hM20.1 hM20.2
    omega
  have HSc := Lib.hid (fun (g c : Nat) W (hc : nm ≤ c) (hO : Own W g lm) (hb : Below w.heap.size w W) => eqscale_ok (some ⟨g, 0, none⟩) nm c lm o R C L D N B rc zr E kc zc W hO.row hW hl hc (by omega) ho hi (by omega) (by omega) hL1 hRL hmr hN hD (hZr.below hb) hzr (hZc.below hb) hzc)
  have HEx := Lib.hid (fun (g c : Nat) W (hc : nm ≤ c) (hO : Own W g lm) (hb : Below w.heap.size w W) => show Calls Try.prog 16 #[mat (some ⟨g, 0, none⟩) nm c o R C L, .slice B R rc, .slice E C kc] W fun e w' => e = .returned (.bool xb) ∧ Below W.heap.size W w' from by
    rw [← hxb]
    exact eqexact_ok (some ⟨g, 0, none⟩) nm c lm o R C L B rc zr E kc zc W hO.row hl hc (by omega) ho hi (by omega) (by omega) hL1 hRL hmr hW (hZr.below hb) hzr (hZc.below hb) hzc)
  have HGx := Lib.hid (fun (g : Nat) W => rgood_any (some ⟨g, 0, none⟩) N N 0 R C D W (by omega) (by unfold I64; omega) (by unfold I64; omega) (by unfold I64; omega) (by unfold I64; omega))
  have hgx : matB N 0 (R : Int) (C : Int) (D : Int) = true := mat_right (o := 0) (by omega) (by omega) (mat_room hN hD)
  rw [hgx] at HGx
  have HOx := Lib.hid (fun (g : Nat) (M : List Nat) W (hM : SclS zr zc lm o R C L D N M) (hO : Own W g M) => show Calls Try.prog 10 #[mat (some ⟨g, 0, none⟩) N N 0 R C D] W fun e w' => ∃ g T, e = .returned (tbl R C g N N) ∧ ShfS zr zc lm o R C L N T ∧ Row w' (some ⟨g, 0, none⟩) (f64s T) ∧ Below W.heap.size W w' from by
    refine (rof_any (some ⟨g, 0, none⟩) N N M 0 R C D N W hO.row hM.len (by omega) hN (by omega) (by omega) (by omega) (mat_room hN hD)).mono ?_
    rintro e w' ⟨g', T, e1, e2, e3, _, e4⟩
    exact ⟨g', T, e1, ShfS.of_prog hN hM e2, e3, e4⟩)
  have HOf := Lib.hid (fun W (hb : Below w.heap.size w W) => show Calls Try.prog 10 #[mat Am nm cm o R C L] W fun e w' => ∃ g T, e = .returned (tbl R C g N N) ∧ Tab lm o R C L N T ∧ Row w' (some ⟨g, 0, none⟩) (f64s T) ∧ Below W.heap.size W w' from by
    refine (rof_any Am nm cm lm o R C L N W (hA.below hb) hl (by omega) hN (by omega) (by omega) (by omega) hmr).mono ?_
    rintro e w' ⟨g', T, e1, e2, e3, _, e4⟩
    exact ⟨g', T, e1, e2, e3, e4⟩)
  have HRs := Lib.hid (fun (g c : Nat) (T : List Nat) W (hb : Below w.heap.size w W) (hT : Tab lm o R C L N T) (h : Row W (some ⟨g, 0, none⟩) (f64s T)) => show Calls Try.prog 18 #[tbl R C g N c, .slice B R rc, .slice E C kc] W fun e w' => ∃ g c T', e = .returned (tbl R C g N c) ∧ ShfS zr zc lm o R C L N T' ∧ Row w' (some ⟨g, 0, none⟩) (f64s T') ∧ Below W.heap.size W w' from by
    refine (rshift08_any B rc zr E kc zc R C g N c T W (eqwds_tab hT hW hN) (hZr.below hb) hzr (hZc.below hb) hzc h (by rw [hT.1, hN]) hN hN20 (by omega) (by omega)).mono ?_
    rintro e w' ⟨g', c', T', e1, e2, e3, e4, _, e5⟩
    exact ⟨g', c', T', e1, ShfS.of_ref hN hT e3 e4, e2.row, e5⟩)
  have HAlF := Lib.hid (fun W (A B : Option Addr) (c d : Nat) (X Y : List Nat) (hX : ShfS zr zc lm o R C L N X) (hY : ShfS zr zc lm o R C L N Y) (h1 : Row W A (f64s X)) (h2 : Row W B (f64s Y)) => show Calls Try.prog 17 #[.slice A N c, .slice B N d] W fun e w' => e = .returned (.bool true) ∧ Below W.heap.size W w' from by
    have e := hX.uniq hN hY
    subst e
    have := rall_any A B c d X X W (hX.wds hN hW) (hX.wds hN hW) h1 h2 (by rw [hX.1]; omega) (Alike.refl X)
    rw [hX.1] at this; exact this)
  have HRx := Lib.hid (fun (g : Nat) (T : List Nat) W (hb : Below w.heap.size w W) (hT : Tab lm o R C L N T) (h : Row W (some ⟨g, 0, none⟩) (f64s T)) (h1 : ∀ i, i < R → -10000 ≤ zr.getD i 0 ∧ zr.getD i 0 ≤ 10000) (h2 : ∀ i, i < C → -10000 ≤ zc.getD i 0 ∧ zc.getD i 0 ≤ 10000) => show Calls Try.prog 19 #[.agg #[.int .i64 (R : Int), .int .i64 (C : Int), .slice (some ⟨g, 0, none⟩) N N], .slice B R rc, .slice E C kc] W fun e w' => e = .returned (.bool xb) ∧ Below W.heap.size W w' from by
    have hc := exB_congr (zr := zr) (zc := zc) (X := fun i j => T.getD (i * C + j) 0) (X' := tX lm o L) (R := R) (C := C) (fun i hi j hj => tab_get hT hN hi hj)
    rw [← hxb, ← hc]
    exact reqexact_any R C g N N T B rc zr E kc zc W h (eqwds_tab hT hW hN) (by rw [hT.1, hN]) hN (by omega) (by omega) (hZr.below hb) hzr (hZc.below hb) hzc h1 h2)
  have tC : ((C : Int) != (C : Int)) = false := by simp
  have tR : ((R : Int) != (R : Int)) = false := by simp
  have HRC := Lib.hid hM20
  have HZr := Lib.hid (And.intro hZr hzr)
  have HZc := Lib.hid (And.intro hZc hzc)
  clear hA hW hl hn hG hM20 ho hi hL1 hRL hmr hr hk hgd hZr hzr hZc hzc hN hD hxb hN20 hgx
  unfold mat tbl at *
  go_enter Try.func4, Try.ntmps4
  have Hm0 := Lib.hid (Blk.new w 24 #[.slice Am nm cm, .int .i64 (o : Int), .int .i64 (R : Int), .int .i64 (C : Int), .int .i64 (L : Int)])
  have HB0 := Lib.hid ((Below.refl w.heap.size w).alloc (Nat.le_refl _) (.cells #[.slice Am nm cm, .int .i64 (o : Int), .int .i64 (R : Int), .int .i64 (C : Int), .int .i64 (L : Int)] 24))
  obtain ⟨m0, m1, m2, m3, m4⟩ := cells5 Hm0.out
  go_wp2_with fail
  refine (awake15_any _).mono ?_
  rintro e w1 ⟨rfl, hb⟩
  have Hm1 := Lib.hid (Hm0.out.nxt hb)
  have HB1 := Lib.hid (below_nx HB0.out hb)
  clear hb
  clear m0 m1 m2 m3 m4
  obtain ⟨m0, m1, m2, m3, m4⟩ := cells5 Hm1.out
  go_wp2_with fail
  refine (HGr.out _).mono ?_
  rintro e w2 ⟨rfl, hb⟩
  have Hm2 := Lib.hid (Hm1.out.nxt hb)
  have HB2 := Lib.hid (below_nx HB1.out hb)
  clear hb
  clear m0 m1 m2 m3 m4
  obtain ⟨m0, m1, m2, m3, m4⟩ := cells5 Hm2.out
  go_wp2_with fail
  refine (HAp.out _ HB2.out).mono ?_
  rintro e w3 ⟨gn, cn, hcn, rfl, hOn, hgn, hb⟩
  have HCn := Lib.hid hcn
  have Hm3 := Lib.hid (Hm2.out.nxt hb)
  have HB3 := Lib.hid (below_nx HB2.out hb)
  clear hb
  clear m0 m1 m2 m3 m4
  obtain ⟨m0, m1, m2, m3, m4⟩ := cells5 Hm3.out
  have Hn3 := Lib.hid hOn
  clear hOn hgn hcn
  have Hm4 := Lib.hid (Hm3.out.alloc (.cells #[.slice (some ⟨gn, 0, none⟩) nm cn, .int .i64 (o : Int), .int .i64 (R : Int), .int .i64 (C : Int), .int .i64 (L : Int)] 24))
  have Hn4 := Lib.hid (Hn3.out.nxt (below_one (o := (.cells #[.slice (some ⟨gn, 0, none⟩) nm cn, .int .i64 (o : Int), .int .i64 (R : Int), .int .i64 (C : Int), .int .i64 (L : Int)] 24))))
  have Hk4 := Lib.hid (Blk.new w3 24 #[.slice (some ⟨gn, 0, none⟩) nm cn, .int .i64 (o : Int), .int .i64 (R : Int), .int .i64 (C : Int), .int .i64 (L : Int)])
  have HB4 := Lib.hid (below_al HB3.out (o := (.cells #[.slice (some ⟨gn, 0, none⟩) nm cn, .int .i64 (o : Int), .int .i64 (R : Int), .int .i64 (C : Int), .int .i64 (L : Int)] 24)))
  clear m0 m1 m2 m3 m4
  obtain ⟨m0, m1, m2, m3, m4⟩ := cells5 Hm4.out
  obtain ⟨k0, k1, k2, k3, k4⟩ := cells5 Hk4.out
  go_wp2_with fail
  clear m0 m1 m2 m3 m4 k0 k1 k2 k3 k4
  generalize hq9 : w3.alloc (.cells #[.slice (some ⟨gn, 0, none⟩) nm cn, .int .i64 (o : Int), .int .i64 (R : Int), .int .i64 (C : Int), .int .i64 (L : Int)] 24) = w4 at *
  clear hq9
  generalize w3.heap.size = pn at *
  obtain ⟨m0, m1, m2, m3, m4⟩ := cells5 Hm4.out
  obtain ⟨k0, k1, k2, k3, k4⟩ := cells5 Hk4.out
  refine (HSc.out gn cn _ HCn.out Hn4.out HB4.out).mono ?_
  rintro e w5 ⟨gx, Mx, rfl, hMx, hOx, hgx, hb⟩
  have HMx := Lib.hid hMx
  have Hm5 := Lib.hid (Hm4.out.nxt hb)
  have Hk5 := Lib.hid (Hk4.out.nxt hb)
  have Hn5 := Lib.hid (Hn4.out.nxt hb)
  have HB5 := Lib.hid (below_nx HB4.out hb)
  clear hb
  clear m0 m1 m2 m3 m4 k0 k1 k2 k3 k4
  obtain ⟨m0, m1, m2, m3, m4⟩ := cells5 Hm5.out
  obtain ⟨k0, k1, k2, k3, k4⟩ := cells5 Hk5.out
  have Hu5 := Lib.hid hOx
  clear hMx hOx hgx
  have Hm6 := Lib.hid (Hm5.out.alloc (.cells #[.slice (some ⟨gx, 0, none⟩) N N, .int .i64 0, .int .i64 (R : Int), .int .i64 (C : Int), .int .i64 (D : Int)] 24))
  have Hk6 := Lib.hid (Hk5.out.alloc (.cells #[.slice (some ⟨gx, 0, none⟩) N N, .int .i64 0, .int .i64 (R : Int), .int .i64 (C : Int), .int .i64 (D : Int)] 24))
  have Hn6 := Lib.hid (Hn5.out.nxt (below_one (o := (.cells #[.slice (some ⟨gx, 0, none⟩) N N, .int .i64 0, .int .i64 (R : Int), .int .i64 (C : Int), .int .i64 (D : Int)] 24))))
  have Hu6 := Lib.hid (Hu5.out.nxt (below_one (o := (.cells #[.slice (some ⟨gx, 0, none⟩) N N, .int .i64 0, .int .i64 (R : Int), .int .i64 (C : Int), .int .i64 (D : Int)] 24))))
  have Hx6 := Lib.hid (Blk.new w5 24 #[.slice (some ⟨gx, 0, none⟩) N N, .int .i64 0, .int .i64 (R : Int), .int .i64 (C : Int), .int .i64 (D : Int)])
  have HB6 := Lib.hid (below_al HB5.out (o := (.cells #[.slice (some ⟨gx, 0, none⟩) N N, .int .i64 0, .int .i64 (R : Int), .int .i64 (C : Int), .int .i64 (D : Int)] 24)))
  clear m0 m1 m2 m3 m4 k0 k1 k2 k3 k4
  obtain ⟨m0, m1, m2, m3, m4⟩ := cells5 Hm6.out
  obtain ⟨k0, k1, k2, k3, k4⟩ := cells5 Hk6.out
  obtain ⟨x0, x1, x2, x3, x4⟩ := cells5 Hx6.out
  go_wp2_with fail
  clear m0 m1 m2 m3 m4 k0 k1 k2 k3 k4 x0 x1 x2 x3 x4
  generalize hq9 : w5.alloc (.cells #[.slice (some ⟨gx, 0, none⟩) N N, .int .i64 0, .int .i64 (R : Int), .int .i64 (C : Int), .int .i64 (D : Int)] 24) = w6 at *
  clear hq9
  generalize w5.heap.size = px at *
  obtain ⟨m0, m1, m2, m3, m4⟩ := cells5 Hm6.out
  obtain ⟨k0, k1, k2, k3, k4⟩ := cells5 Hk6.out
  obtain ⟨x0, x1, x2, x3, x4⟩ := cells5 Hx6.out
  refine (HEx.out gn cn _ HCn.out Hn6.out HB6.out).mono ?_
  rintro e w7 ⟨rfl, hb⟩
  have Hm7 := Lib.hid (Hm6.out.nxt hb)
  have Hk7 := Lib.hid (Hk6.out.nxt hb)
  have Hx7 := Lib.hid (Hx6.out.nxt hb)
  have Hn7 := Lib.hid (Hn6.out.nxt hb)
  have Hu7 := Lib.hid (Hu6.out.nxt hb)
  have HB7 := Lib.hid (below_nx HB6.out hb)
  clear hb
  clear m0 m1 m2 m3 m4 k0 k1 k2 k3 k4 x0 x1 x2 x3 x4
  obtain ⟨m0, m1, m2, m3, m4⟩ := cells5 Hm7.out
  obtain ⟨k0, k1, k2, k3, k4⟩ := cells5 Hk7.out
  obtain ⟨x0, x1, x2, x3, x4⟩ := cells5 Hx7.out
  go_wp2_with fail
  refine (HAll.out _ _ _ _ _ Hn7.out.row (HAm.out.below HB7.out)).mono ?_
  rintro e w8 ⟨rfl, hb⟩
  have Hm8 := Lib.hid (Hm7.out.nxt hb)
  have Hk8 := Lib.hid (Hk7.out.nxt hb)
  have Hx8 := Lib.hid (Hx7.out.nxt hb)
  have Hn8 := Lib.hid (Hn7.out.nxt hb)
  have Hu8 := Lib.hid (Hu7.out.nxt hb)
  have HB8 := Lib.hid (below_nx HB7.out hb)
  clear hb
  clear m0 m1 m2 m3 m4 k0 k1 k2 k3 k4 x0 x1 x2 x3 x4
  obtain ⟨m0, m1, m2, m3, m4⟩ := cells5 Hm8.out
  obtain ⟨k0, k1, k2, k3, k4⟩ := cells5 Hk8.out
  obtain ⟨x0, x1, x2, x3, x4⟩ := cells5 Hx8.out
  go_wp2_with fail
  refine (HGd.out _).mono ?_
  rintro e w9 ⟨rfl, hb⟩
  have Hm9 := Lib.hid (Hm8.out.nxt hb)
  have Hk9 := Lib.hid (Hk8.out.nxt hb)
  have Hx9 := Lib.hid (Hx8.out.nxt hb)
  have Hn9 := Lib.hid (Hn8.out.nxt hb)
  have Hu9 := Lib.hid (Hu8.out.nxt hb)
  have HB9 := Lib.hid (below_nx HB8.out hb)
  clear hb
  clear m0 m1 m2 m3 m4 k0 k1 k2 k3 k4 x0 x1 x2 x3 x4
  obtain ⟨m0, m1, m2, m3, m4⟩ := cells5 Hm9.out
  obtain ⟨k0, k1, k2, k3, k4⟩ := cells5 Hk9.out
  obtain ⟨x0, x1, x2, x3, x4⟩ := cells5 Hx9.out
  go_wp2_with fail
  refine (HOf.out _ HB9.out).mono ?_
  rintro e wf ⟨gT, T, rfl, hT, hRw, hb⟩
  have HTt := Lib.hid hT
  have Hm10 := Lib.hid (Hm9.out.nxt hb)
  have Hk10 := Lib.hid (Hk9.out.nxt hb)
  have Hx10 := Lib.hid (Hx9.out.nxt hb)
  have Hn10 := Lib.hid (Hn9.out.nxt hb)
  have Hu10 := Lib.hid (Hu9.out.nxt hb)
  have HB10 := Lib.hid (below_nx HB9.out hb)
  clear hb
  clear m0 m1 m2 m3 m4 k0 k1 k2 k3 k4 x0 x1 x2 x3 x4
  obtain ⟨m0, m1, m2, m3, m4⟩ := cells5 Hm10.out
  obtain ⟨k0, k1, k2, k3, k4⟩ := cells5 Hk10.out
  obtain ⟨x0, x1, x2, x3, x4⟩ := cells5 Hx10.out
  have HT10 := Lib.hid hRw
  clear hT hRw
  have Hm11 := Lib.hid (Hm10.out.alloc (.cells #[.int .i64 (R : Int), .int .i64 (C : Int), .slice (some ⟨gT, 0, none⟩) N N] 32))
  have Hk11 := Lib.hid (Hk10.out.alloc (.cells #[.int .i64 (R : Int), .int .i64 (C : Int), .slice (some ⟨gT, 0, none⟩) N N] 32))
  have Hx11 := Lib.hid (Hx10.out.alloc (.cells #[.int .i64 (R : Int), .int .i64 (C : Int), .slice (some ⟨gT, 0, none⟩) N N] 32))
  have Hn11 := Lib.hid (Hn10.out.nxt (below_one (o := (.cells #[.int .i64 (R : Int), .int .i64 (C : Int), .slice (some ⟨gT, 0, none⟩) N N] 32))))
  have Hu11 := Lib.hid (Hu10.out.nxt (below_one (o := (.cells #[.int .i64 (R : Int), .int .i64 (C : Int), .slice (some ⟨gT, 0, none⟩) N N] 32))))
  have HT11 := Lib.hid (HT10.out.below (below_one (o := (.cells #[.int .i64 (R : Int), .int .i64 (C : Int), .slice (some ⟨gT, 0, none⟩) N N] 32))))
  have Ht11 := Lib.hid (Blk.new wf 32 #[.int .i64 (R : Int), .int .i64 (C : Int), .slice (some ⟨gT, 0, none⟩) N N])
  have HB11 := Lib.hid (below_al HB10.out (o := (.cells #[.int .i64 (R : Int), .int .i64 (C : Int), .slice (some ⟨gT, 0, none⟩) N N] 32)))
  clear m0 m1 m2 m3 m4 k0 k1 k2 k3 k4 x0 x1 x2 x3 x4
  obtain ⟨m0, m1, m2, m3, m4⟩ := cells5 Hm11.out
  obtain ⟨k0, k1, k2, k3, k4⟩ := cells5 Hk11.out
  obtain ⟨x0, x1, x2, x3, x4⟩ := cells5 Hx11.out
  obtain ⟨t0, t1, t2⟩ := cells3v Ht11.out
  go_wp2_with fail
  clear m0 m1 m2 m3 m4 k0 k1 k2 k3 k4 x0 x1 x2 x3 x4 t0 t1 t2
  generalize hq9 : wf.alloc (.cells #[.int .i64 (R : Int), .int .i64 (C : Int), .slice (some ⟨gT, 0, none⟩) N N] 32) = wg at *
  clear hq9
  generalize wf.heap.size = pt at *
  obtain ⟨m0, m1, m2, m3, m4⟩ := cells5 Hm11.out
  obtain ⟨k0, k1, k2, k3, k4⟩ := cells5 Hk11.out
  obtain ⟨x0, x1, x2, x3, x4⟩ := cells5 Hx11.out
  obtain ⟨t0, t1, t2⟩ := cells3v Ht11.out
  refine wp_region_invG [95, 96, 97, 98, 99, 100, 101, 102, 103, 104, 105, 106, 107, 108, 109, 110, 111, 112, 113, 114, 115, 116, 117, 118, 119, 120, 121, 122, 123, 124, 125, 126, 127] (fun d s W => (d 0 = true → s 95 = .int .i64 0) ∧ (d 1 = true → s 96 = .bool false) ∧ (d 2 = true → s 97 = .bool false) ∧ (d 3 = true → s 98 = .agg #[.slice (some ⟨gx, 0, none⟩) N N, .int .i64 0, .int .i64 (R : Int), .int .i64 (C : Int), .int .i64 (D : Int)]) ∧ (d 4 = true → s 99 = .bool true) ∧ (d 5 = true → s 100 = .bool false) ∧ (d 6 = true → s 101 = .bool false) ∧ (d 7 = true → s 102 = .bool false) ∧ (d 8 = true → s 103 = .pointer (some ⟨px, 2, none⟩)) ∧ (d 9 = true → s 104 = .int .i64 (R : Int)) ∧ (d 10 = true → s 105 = .pointer (some ⟨w.heap.size, 2, none⟩)) ∧ (d 11 = true → s 106 = .int .i64 (R : Int)) ∧ (d 12 = true → s 107 = .bool false) ∧ (d 13 = true → s 108 = .bool false) ∧ (d 14 = true → s 109 = .bool false) ∧ (d 15 = true → s 110 = .pointer (some ⟨px, 3, none⟩)) ∧ (d 16 = true → s 111 = .int .i64 (C : Int)) ∧ (d 17 = true → s 112 = .pointer (some ⟨w.heap.size, 3, none⟩)) ∧ (d 18 = true → s 113 = .int .i64 (C : Int)) ∧ (d 19 = true → s 114 = .bool false) ∧ (d 20 = true → s 115 = .bool false) ∧ (d 21 = true → s 116 = .bool false) ∧ (d 22 = true → s 117 = .agg #[.slice (some ⟨gx, 0, none⟩) N N, .int .i64 0, .int .i64 (R : Int), .int .i64 (C : Int), .int .i64 (D : Int)]) ∧ (d 23 = true → TbG W (s 118) (ShfS zr zc lm o R C L N) R C N) ∧ (d 24 = true → SlG W (s 119) (ShfS zr zc lm o R C L N) N) ∧ (d 25 = true → s 120 = .agg #[.int .i64 (R : Int), .int .i64 (C : Int), .slice (some ⟨gT, 0, none⟩) N N]) ∧ (d 26 = true → s 121 = .slice B R rc) ∧ (d 27 = true → s 122 = .slice E C kc) ∧ (d 28 = true → TbG W (s 123) (ShfS zr zc lm o R C L N) R C N) ∧ (d 29 = true → SlG W (s 124) (ShfS zr zc lm o R C L N) N) ∧ (d 30 = true → s 125 = .bool true) ∧ (d 31 = true → s 126 = .bool false) ∧ (d 32 = true → s 127 = .bool false) ∧ Below wg.heap.size wg W)
    rfl (by kernel_rfl) ?_ ?_ ?_
  · exact ⟨by simp, by simp, by simp, by simp, by simp, by simp, by simp, by simp, by simp, by simp, by simp, by simp, by simp, by simp, by simp, by simp, by simp, by simp, by simp, by simp, by simp, by simp, by simp, by simp, by simp, by simp, by simp, by simp, by simp, by simp, by simp, by simp, by simp, (Below.refl _ _).drew⟩
  · refine ⟨?_, ?_, ?_, ?_, ?_, ?_, ?_, ?_, ?_, ?_, ?_, ?_, ?_, ?_, ?_, ?_, ?_, ?_, ?_, ?_, ?_, ?_, ?_, ?_, ?_, ?_, ?_, ?_, ?_, ?_, ?_, ?_, ?_, trivial⟩
    all_goals
      intro d s W hJ hfr hd hdep
      simp only [List.mem_cons, forall_eq_or_imp, List.not_mem_nil, false_implies, implies_true, and_true, Region.binds] at hdep
      have f1 := hfr 1 (by decide)
      have f2 := hfr 2 (by decide)
      have f3 := hfr 3 (by decide)
      have f8 := hfr 8 (by decide)
      have f9 := hfr 9 (by decide)
      have f11 := hfr 11 (by decide)
      simp at f1 f2 f3 f8 f9 f11 hdep
      obtain ⟨h0, h1, h2, h3, h4, h5, h6, h7, h8, h9, h10, h11, h12, h13, h14, h15, h16, h17, h18, h19, h20, h21, h22, h23, h24, h25, h26, h27, h28, h29, h30, h31, h32, hT⟩ := hJ
    · refine stepG_plain rfl ?_
      unfold OpSteps
      simp [go_sem, evS, f9]
      exact ⟨fun _ => by simp [sput], kpv h1 (by decide) (by decide), kpv h2 (by decide) (by decide), kpv h3 (by decide) (by decide), kpv h4 (by decide) (by decide), kpv h5 (by decide) (by decide), kpv h6 (by decide) (by decide), kpv h7 (by decide) (by decide), kpv h8 (by decide) (by decide), kpv h9 (by decide) (by decide), kpv h10 (by decide) (by decide), kpv h11 (by decide) (by decide), kpv h12 (by decide) (by decide), kpv h13 (by decide) (by decide), kpv h14 (by decide) (by decide), kpv h15 (by decide) (by decide), kpv h16 (by decide) (by decide), kpv h17 (by decide) (by decide), kpv h18 (by decide) (by decide), kpv h19 (by decide) (by decide), kpv h20 (by decide) (by decide), kpv h21 (by decide) (by decide), kpv h22 (by decide) (by decide), fun h => by simpa [sput] using h23 (by simpa [did] using h), fun h => by simpa [sput] using h24 (by simpa [did] using h), kpv h25 (by decide) (by decide), kpv h26 (by decide) (by decide), kpv h27 (by decide) (by decide), fun h => by simpa [sput] using h28 (by simpa [did] using h), fun h => by simpa [sput] using h29 (by simpa [did] using h), kpv h30 (by decide) (by decide), kpv h31 (by decide) (by decide), kpv h32 (by decide) (by decide), hT⟩
    · have g0 := h0 (by simp [hdep])
      refine stepG_plain rfl ?_
      unfold OpSteps
      simp [go_sem, evS, g0]
      exact ⟨kpv h0 (by decide) (by decide), fun _ => by simp [sput], kpv h2 (by decide) (by decide), kpv h3 (by decide) (by decide), kpv h4 (by decide) (by decide), kpv h5 (by decide) (by decide), kpv h6 (by decide) (by decide), kpv h7 (by decide) (by decide), kpv h8 (by decide) (by decide), kpv h9 (by decide) (by decide), kpv h10 (by decide) (by decide), kpv h11 (by decide) (by decide), kpv h12 (by decide) (by decide), kpv h13 (by decide) (by decide), kpv h14 (by decide) (by decide), kpv h15 (by decide) (by decide), kpv h16 (by decide) (by decide), kpv h17 (by decide) (by decide), kpv h18 (by decide) (by decide), kpv h19 (by decide) (by decide), kpv h20 (by decide) (by decide), kpv h21 (by decide) (by decide), kpv h22 (by decide) (by decide), fun h => by simpa [sput] using h23 (by simpa [did] using h), fun h => by simpa [sput] using h24 (by simpa [did] using h), kpv h25 (by decide) (by decide), kpv h26 (by decide) (by decide), kpv h27 (by decide) (by decide), fun h => by simpa [sput] using h28 (by simpa [did] using h), fun h => by simpa [sput] using h29 (by simpa [did] using h), kpv h30 (by decide) (by decide), kpv h31 (by decide) (by decide), kpv h32 (by decide) (by decide), hT⟩
    · have g1 := h1 (by simp [hdep])
      refine stepG_plain rfl ?_
      unfold OpSteps
      simp [go_sem, evS, g1]
      exact ⟨kpv h0 (by decide) (by decide), kpv h1 (by decide) (by decide), fun _ => by simp [sput], kpv h3 (by decide) (by decide), kpv h4 (by decide) (by decide), kpv h5 (by decide) (by decide), kpv h6 (by decide) (by decide), kpv h7 (by decide) (by decide), kpv h8 (by decide) (by decide), kpv h9 (by decide) (by decide), kpv h10 (by decide) (by decide), kpv h11 (by decide) (by decide), kpv h12 (by decide) (by decide), kpv h13 (by decide) (by decide), kpv h14 (by decide) (by decide), kpv h15 (by decide) (by decide), kpv h16 (by decide) (by decide), kpv h17 (by decide) (by decide), kpv h18 (by decide) (by decide), kpv h19 (by decide) (by decide), kpv h20 (by decide) (by decide), kpv h21 (by decide) (by decide), kpv h22 (by decide) (by decide), fun h => by simpa [sput] using h23 (by simpa [did] using h), fun h => by simpa [sput] using h24 (by simpa [did] using h), kpv h25 (by decide) (by decide), kpv h26 (by decide) (by decide), kpv h27 (by decide) (by decide), fun h => by simpa [sput] using h28 (by simpa [did] using h), fun h => by simpa [sput] using h29 (by simpa [did] using h), kpv h30 (by decide) (by decide), kpv h31 (by decide) (by decide), kpv h32 (by decide) (by decide), hT⟩
    · have g2 := h2 (by simp [hdep])
      refine stepG_on 2 97 false rfl rfl g2 ?_
      unfold OpSteps
      obtain ⟨p0, p1, p2, p3, p4⟩ := cells5 (Hx11.out.below hT Hx11.out.lt)
      simp [go_sem, evS, f8, g2, p0, p1, p2, p3, p4]
      exact ⟨kpv h0 (by decide) (by decide), kpv h1 (by decide) (by decide), kpv h2 (by decide) (by decide), fun _ => by simp [sput], kpv h4 (by decide) (by decide), kpv h5 (by decide) (by decide), kpv h6 (by decide) (by decide), kpv h7 (by decide) (by decide), kpv h8 (by decide) (by decide), kpv h9 (by decide) (by decide), kpv h10 (by decide) (by decide), kpv h11 (by decide) (by decide), kpv h12 (by decide) (by decide), kpv h13 (by decide) (by decide), kpv h14 (by decide) (by decide), kpv h15 (by decide) (by decide), kpv h16 (by decide) (by decide), kpv h17 (by decide) (by decide), kpv h18 (by decide) (by decide), kpv h19 (by decide) (by decide), kpv h20 (by decide) (by decide), kpv h21 (by decide) (by decide), kpv h22 (by decide) (by decide), fun h => by simpa [sput] using h23 (by simpa [did] using h), fun h => by simpa [sput] using h24 (by simpa [did] using h), kpv h25 (by decide) (by decide), kpv h26 (by decide) (by decide), kpv h27 (by decide) (by decide), fun h => by simpa [sput] using h28 (by simpa [did] using h), fun h => by simpa [sput] using h29 (by simpa [did] using h), kpv h30 (by decide) (by decide), kpv h31 (by decide) (by decide), kpv h32 (by decide) (by decide), hT⟩
    · have g3 := h3 (by simp [hdep])
      have g2 := h2 (by simp [hdep])
      refine stepG_on 2 97 false rfl rfl g2 ?_
      unfold OpSteps
      simp [go_sem, evS, g3, g2]
      refine (HGx.out gx W).mono ?_
      rintro e W' ⟨rfl, hb⟩
      refine ⟨_, rfl, ?_⟩
      exact ⟨kpv h0 (by decide) (by decide), kpv h1 (by decide) (by decide), kpv h2 (by decide) (by decide), kpv h3 (by decide) (by decide), fun _ => by simp [sput], kpv h5 (by decide) (by decide), kpv h6 (by decide) (by decide), kpv h7 (by decide) (by decide), kpv h8 (by decide) (by decide), kpv h9 (by decide) (by decide), kpv h10 (by decide) (by decide), kpv h11 (by decide) (by decide), kpv h12 (by decide) (by decide), kpv h13 (by decide) (by decide), kpv h14 (by decide) (by decide), kpv h15 (by decide) (by decide), kpv h16 (by decide) (by decide), kpv h17 (by decide) (by decide), kpv h18 (by decide) (by decide), kpv h19 (by decide) (by decide), kpv h20 (by decide) (by decide), kpv h21 (by decide) (by decide), kpv h22 (by decide) (by decide), fun h => by simpa [sput] using (h23 (by simpa [did] using h)).below hb, fun h => by simpa [sput] using (h24 (by simpa [did] using h)).below hb, kpv h25 (by decide) (by decide), kpv h26 (by decide) (by decide), kpv h27 (by decide) (by decide), fun h => by simpa [sput] using (h28 (by simpa [did] using h)).below hb, fun h => by simpa [sput] using (h29 (by simpa [did] using h)).below hb, kpv h30 (by decide) (by decide), kpv h31 (by decide) (by decide), kpv h32 (by decide) (by decide), below_nx hT hb⟩
    · have g4 := h4 (by simp [hdep])
      have g2 := h2 (by simp [hdep])
      refine stepG_on 2 97 false rfl rfl g2 ?_
      unfold OpSteps
      simp [go_sem, evS, g4, g2]
      exact ⟨kpv h0 (by decide) (by decide), kpv h1 (by decide) (by decide), kpv h2 (by decide) (by decide), kpv h3 (by decide) (by decide), kpv h4 (by decide) (by decide), fun _ => by simp [sput], kpv h6 (by decide) (by decide), kpv h7 (by decide) (by decide), kpv h8 (by decide) (by decide), kpv h9 (by decide) (by decide), kpv h10 (by decide) (by decide), kpv h11 (by decide) (by decide), kpv h12 (by decide) (by decide), kpv h13 (by decide) (by decide), kpv h14 (by decide) (by decide), kpv h15 (by decide) (by decide), kpv h16 (by decide) (by decide), kpv h17 (by decide) (by decide), kpv h18 (by decide) (by decide), kpv h19 (by decide) (by decide), kpv h20 (by decide) (by decide), kpv h21 (by decide) (by decide), kpv h22 (by decide) (by decide), fun h => by simpa [sput] using h23 (by simpa [did] using h), fun h => by simpa [sput] using h24 (by simpa [did] using h), kpv h25 (by decide) (by decide), kpv h26 (by decide) (by decide), kpv h27 (by decide) (by decide), fun h => by simpa [sput] using h28 (by simpa [did] using h), fun h => by simpa [sput] using h29 (by simpa [did] using h), kpv h30 (by decide) (by decide), kpv h31 (by decide) (by decide), kpv h32 (by decide) (by decide), hT⟩
    · have g2 := h2 (by simp [hdep])
      have g5 := h5 (by simp [hdep])
      refine stepG_plain rfl ?_
      unfold OpSteps
      simp [go_sem, evS, g2, g5]
      exact ⟨kpv h0 (by decide) (by decide), kpv h1 (by decide) (by decide), kpv h2 (by decide) (by decide), kpv h3 (by decide) (by decide), kpv h4 (by decide) (by decide), kpv h5 (by decide) (by decide), fun _ => by simp [sput], kpv h7 (by decide) (by decide), kpv h8 (by decide) (by decide), kpv h9 (by decide) (by decide), kpv h10 (by decide) (by decide), kpv h11 (by decide) (by decide), kpv h12 (by decide) (by decide), kpv h13 (by decide) (by decide), kpv h14 (by decide) (by decide), kpv h15 (by decide) (by decide), kpv h16 (by decide) (by decide), kpv h17 (by decide) (by decide), kpv h18 (by decide) (by decide), kpv h19 (by decide) (by decide), kpv h20 (by decide) (by decide), kpv h21 (by decide) (by decide), kpv h22 (by decide) (by decide), fun h => by simpa [sput] using h23 (by simpa [did] using h), fun h => by simpa [sput] using h24 (by simpa [did] using h), kpv h25 (by decide) (by decide), kpv h26 (by decide) (by decide), kpv h27 (by decide) (by decide), fun h => by simpa [sput] using h28 (by simpa [did] using h), fun h => by simpa [sput] using h29 (by simpa [did] using h), kpv h30 (by decide) (by decide), kpv h31 (by decide) (by decide), kpv h32 (by decide) (by decide), hT⟩
    · have g6 := h6 (by simp [hdep])
      refine stepG_plain rfl ?_
      unfold OpSteps
      simp [go_sem, evS, g6]
      exact ⟨kpv h0 (by decide) (by decide), kpv h1 (by decide) (by decide), kpv h2 (by decide) (by decide), kpv h3 (by decide) (by decide), kpv h4 (by decide) (by decide), kpv h5 (by decide) (by decide), kpv h6 (by decide) (by decide), fun _ => by simp [sput], kpv h8 (by decide) (by decide), kpv h9 (by decide) (by decide), kpv h10 (by decide) (by decide), kpv h11 (by decide) (by decide), kpv h12 (by decide) (by decide), kpv h13 (by decide) (by decide), kpv h14 (by decide) (by decide), kpv h15 (by decide) (by decide), kpv h16 (by decide) (by decide), kpv h17 (by decide) (by decide), kpv h18 (by decide) (by decide), kpv h19 (by decide) (by decide), kpv h20 (by decide) (by decide), kpv h21 (by decide) (by decide), kpv h22 (by decide) (by decide), fun h => by simpa [sput] using h23 (by simpa [did] using h), fun h => by simpa [sput] using h24 (by simpa [did] using h), kpv h25 (by decide) (by decide), kpv h26 (by decide) (by decide), kpv h27 (by decide) (by decide), fun h => by simpa [sput] using h28 (by simpa [did] using h), fun h => by simpa [sput] using h29 (by simpa [did] using h), kpv h30 (by decide) (by decide), kpv h31 (by decide) (by decide), kpv h32 (by decide) (by decide), hT⟩
    · have g7 := h7 (by simp [hdep])
      refine stepG_on 7 102 false rfl rfl g7 ?_
      unfold OpSteps
      simp [go_sem, evS, f8, g7]
      exact ⟨kpv h0 (by decide) (by decide), kpv h1 (by decide) (by decide), kpv h2 (by decide) (by decide), kpv h3 (by decide) (by decide), kpv h4 (by decide) (by decide), kpv h5 (by decide) (by decide), kpv h6 (by decide) (by decide), kpv h7 (by decide) (by decide), fun _ => by simp [sput], kpv h9 (by decide) (by decide), kpv h10 (by decide) (by decide), kpv h11 (by decide) (by decide), kpv h12 (by decide) (by decide), kpv h13 (by decide) (by decide), kpv h14 (by decide) (by decide), kpv h15 (by decide) (by decide), kpv h16 (by decide) (by decide), kpv h17 (by decide) (by decide), kpv h18 (by decide) (by decide), kpv h19 (by decide) (by decide), kpv h20 (by decide) (by decide), kpv h21 (by decide) (by decide), kpv h22 (by decide) (by decide), fun h => by simpa [sput] using h23 (by simpa [did] using h), fun h => by simpa [sput] using h24 (by simpa [did] using h), kpv h25 (by decide) (by decide), kpv h26 (by decide) (by decide), kpv h27 (by decide) (by decide), fun h => by simpa [sput] using h28 (by simpa [did] using h), fun h => by simpa [sput] using h29 (by simpa [did] using h), kpv h30 (by decide) (by decide), kpv h31 (by decide) (by decide), kpv h32 (by decide) (by decide), hT⟩
    · have g8 := h8 (by simp [hdep])
      have g7 := h7 (by simp [hdep])
      refine stepG_on 7 102 false rfl rfl g7 ?_
      unfold OpSteps
      obtain ⟨p0, p1, p2, p3, p4⟩ := cells5 (Hx11.out.below hT Hx11.out.lt)
      simp [go_sem, evS, g8, g7, p0, p1, p2, p3, p4]
      exact ⟨kpv h0 (by decide) (by decide), kpv h1 (by decide) (by decide), kpv h2 (by decide) (by decide), kpv h3 (by decide) (by decide), kpv h4 (by decide) (by decide), kpv h5 (by decide) (by decide), kpv h6 (by decide) (by decide), kpv h7 (by decide) (by decide), kpv h8 (by decide) (by decide), fun _ => by simp [sput], kpv h10 (by decide) (by decide), kpv h11 (by decide) (by decide), kpv h12 (by decide) (by decide), kpv h13 (by decide) (by decide), kpv h14 (by decide) (by decide), kpv h15 (by decide) (by decide), kpv h16 (by decide) (by decide), kpv h17 (by decide) (by decide), kpv h18 (by decide) (by decide), kpv h19 (by decide) (by decide), kpv h20 (by decide) (by decide), kpv h21 (by decide) (by decide), kpv h22 (by decide) (by decide), fun h => by simpa [sput] using h23 (by simpa [did] using h), fun h => by simpa [sput] using h24 (by simpa [did] using h), kpv h25 (by decide) (by decide), kpv h26 (by decide) (by decide), kpv h27 (by decide) (by decide), fun h => by simpa [sput] using h28 (by simpa [did] using h), fun h => by simpa [sput] using h29 (by simpa [did] using h), kpv h30 (by decide) (by decide), kpv h31 (by decide) (by decide), kpv h32 (by decide) (by decide), hT⟩
    · have g7 := h7 (by simp [hdep])
      refine stepG_on 7 102 false rfl rfl g7 ?_
      unfold OpSteps
      simp [go_sem, evS, f3, g7]
      exact ⟨kpv h0 (by decide) (by decide), kpv h1 (by decide) (by decide), kpv h2 (by decide) (by decide), kpv h3 (by decide) (by decide), kpv h4 (by decide) (by decide), kpv h5 (by decide) (by decide), kpv h6 (by decide) (by decide), kpv h7 (by decide) (by decide), kpv h8 (by decide) (by decide), kpv h9 (by decide) (by decide), fun _ => by simp [sput], kpv h11 (by decide) (by decide), kpv h12 (by decide) (by decide), kpv h13 (by decide) (by decide), kpv h14 (by decide) (by decide), kpv h15 (by decide) (by decide), kpv h16 (by decide) (by decide), kpv h17 (by decide) (by decide), kpv h18 (by decide) (by decide), kpv h19 (by decide) (by decide), kpv h20 (by decide) (by decide), kpv h21 (by decide) (by decide), kpv h22 (by decide) (by decide), fun h => by simpa [sput] using h23 (by simpa [did] using h), fun h => by simpa [sput] using h24 (by simpa [did] using h), kpv h25 (by decide) (by decide), kpv h26 (by decide) (by decide), kpv h27 (by decide) (by decide), fun h => by simpa [sput] using h28 (by simpa [did] using h), fun h => by simpa [sput] using h29 (by simpa [did] using h), kpv h30 (by decide) (by decide), kpv h31 (by decide) (by decide), kpv h32 (by decide) (by decide), hT⟩
    · have g10 := h10 (by simp [hdep])
      have g7 := h7 (by simp [hdep])
      refine stepG_on 7 102 false rfl rfl g7 ?_
      unfold OpSteps
      obtain ⟨p0, p1, p2, p3, p4⟩ := cells5 (Hm11.out.below hT Hm11.out.lt)
      simp [go_sem, evS, g10, g7, p0, p1, p2, p3, p4]
      exact ⟨kpv h0 (by decide) (by decide), kpv h1 (by decide) (by decide), kpv h2 (by decide) (by decide), kpv h3 (by decide) (by decide), kpv h4 (by decide) (by decide), kpv h5 (by decide) (by decide), kpv h6 (by decide) (by decide), kpv h7 (by decide) (by decide), kpv h8 (by decide) (by decide), kpv h9 (by decide) (by decide), kpv h10 (by decide) (by decide), fun _ => by simp [sput], kpv h12 (by decide) (by decide), kpv h13 (by decide) (by decide), kpv h14 (by decide) (by decide), kpv h15 (by decide) (by decide), kpv h16 (by decide) (by decide), kpv h17 (by decide) (by decide), kpv h18 (by decide) (by decide), kpv h19 (by decide) (by decide), kpv h20 (by decide) (by decide), kpv h21 (by decide) (by decide), kpv h22 (by decide) (by decide), fun h => by simpa [sput] using h23 (by simpa [did] using h), fun h => by simpa [sput] using h24 (by simpa [did] using h), kpv h25 (by decide) (by decide), kpv h26 (by decide) (by decide), kpv h27 (by decide) (by decide), fun h => by simpa [sput] using h28 (by simpa [did] using h), fun h => by simpa [sput] using h29 (by simpa [did] using h), kpv h30 (by decide) (by decide), kpv h31 (by decide) (by decide), kpv h32 (by decide) (by decide), hT⟩
    · have g9 := h9 (by simp [hdep])
      have g11 := h11 (by simp [hdep])
      have g7 := h7 (by simp [hdep])
      refine stepG_on 7 102 false rfl rfl g7 ?_
      unfold OpSteps
      simp [go_sem, evS, g9, g11, g7, tR]
      exact ⟨kpv h0 (by decide) (by decide), kpv h1 (by decide) (by decide), kpv h2 (by decide) (by decide), kpv h3 (by decide) (by decide), kpv h4 (by decide) (by decide), kpv h5 (by decide) (by decide), kpv h6 (by decide) (by decide), kpv h7 (by decide) (by decide), kpv h8 (by decide) (by decide), kpv h9 (by decide) (by decide), kpv h10 (by decide) (by decide), kpv h11 (by decide) (by decide), fun _ => by simp [sput], kpv h13 (by decide) (by decide), kpv h14 (by decide) (by decide), kpv h15 (by decide) (by decide), kpv h16 (by decide) (by decide), kpv h17 (by decide) (by decide), kpv h18 (by decide) (by decide), kpv h19 (by decide) (by decide), kpv h20 (by decide) (by decide), kpv h21 (by decide) (by decide), kpv h22 (by decide) (by decide), fun h => by simpa [sput] using h23 (by simpa [did] using h), fun h => by simpa [sput] using h24 (by simpa [did] using h), kpv h25 (by decide) (by decide), kpv h26 (by decide) (by decide), kpv h27 (by decide) (by decide), fun h => by simpa [sput] using h28 (by simpa [did] using h), fun h => by simpa [sput] using h29 (by simpa [did] using h), kpv h30 (by decide) (by decide), kpv h31 (by decide) (by decide), kpv h32 (by decide) (by decide), hT⟩
    · have g7 := h7 (by simp [hdep])
      have g12 := h12 (by simp [hdep])
      refine stepG_plain rfl ?_
      unfold OpSteps
      simp [go_sem, evS, g7, g12]
      exact ⟨kpv h0 (by decide) (by decide), kpv h1 (by decide) (by decide), kpv h2 (by decide) (by decide), kpv h3 (by decide) (by decide), kpv h4 (by decide) (by decide), kpv h5 (by decide) (by decide), kpv h6 (by decide) (by decide), kpv h7 (by decide) (by decide), kpv h8 (by decide) (by decide), kpv h9 (by decide) (by decide), kpv h10 (by decide) (by decide), kpv h11 (by decide) (by decide), kpv h12 (by decide) (by decide), fun _ => by simp [sput], kpv h14 (by decide) (by decide), kpv h15 (by decide) (by decide), kpv h16 (by decide) (by decide), kpv h17 (by decide) (by decide), kpv h18 (by decide) (by decide), kpv h19 (by decide) (by decide), kpv h20 (by decide) (by decide), kpv h21 (by decide) (by decide), kpv h22 (by decide) (by decide), fun h => by simpa [sput] using h23 (by simpa [did] using h), fun h => by simpa [sput] using h24 (by simpa [did] using h), kpv h25 (by decide) (by decide), kpv h26 (by decide) (by decide), kpv h27 (by decide) (by decide), fun h => by simpa [sput] using h28 (by simpa [did] using h), fun h => by simpa [sput] using h29 (by simpa [did] using h), kpv h30 (by decide) (by decide), kpv h31 (by decide) (by decide), kpv h32 (by decide) (by decide), hT⟩
    · have g13 := h13 (by simp [hdep])
      refine stepG_plain rfl ?_
      unfold OpSteps
      simp [go_sem, evS, g13]
      exact ⟨kpv h0 (by decide) (by decide), kpv h1 (by decide) (by decide), kpv h2 (by decide) (by decide), kpv h3 (by decide) (by decide), kpv h4 (by decide) (by decide), kpv h5 (by decide) (by decide), kpv h6 (by decide) (by decide), kpv h7 (by decide) (by decide), kpv h8 (by decide) (by decide), kpv h9 (by decide) (by decide), kpv h10 (by decide) (by decide), kpv h11 (by decide) (by decide), kpv h12 (by decide) (by decide), kpv h13 (by decide) (by decide), fun _ => by simp [sput], kpv h15 (by decide) (by decide), kpv h16 (by decide) (by decide), kpv h17 (by decide) (by decide), kpv h18 (by decide) (by decide), kpv h19 (by decide) (by decide), kpv h20 (by decide) (by decide), kpv h21 (by decide) (by decide), kpv h22 (by decide) (by decide), fun h => by simpa [sput] using h23 (by simpa [did] using h), fun h => by simpa [sput] using h24 (by simpa [did] using h), kpv h25 (by decide) (by decide), kpv h26 (by decide) (by decide), kpv h27 (by decide) (by decide), fun h => by simpa [sput] using h28 (by simpa [did] using h), fun h => by simpa [sput] using h29 (by simpa [did] using h), kpv h30 (by decide) (by decide), kpv h31 (by decide) (by decide), kpv h32 (by decide) (by decide), hT⟩
    · have g14 := h14 (by simp [hdep])
      refine stepG_on 14 109 false rfl rfl g14 ?_
      unfold OpSteps
      simp [go_sem, evS, f8, g14]
      exact ⟨kpv h0 (by decide) (by decide), kpv h1 (by decide) (by decide), kpv h2 (by decide) (by decide), kpv h3 (by decide) (by decide), kpv h4 (by decide) (by decide), kpv h5 (by decide) (by decide), kpv h6 (by decide) (by decide), kpv h7 (by decide) (by decide), kpv h8 (by decide) (by decide), kpv h9 (by decide) (by decide), kpv h10 (by decide) (by decide), kpv h11 (by decide) (by decide), kpv h12 (by decide) (by decide), kpv h13 (by decide) (by decide), kpv h14 (by decide) (by decide), fun _ => by simp [sput], kpv h16 (by decide) (by decide), kpv h17 (by decide) (by decide), kpv h18 (by decide) (by decide), kpv h19 (by decide) (by decide), kpv h20 (by decide) (by decide), kpv h21 (by decide) (by decide), kpv h22 (by decide) (by decide), fun h => by simpa [sput] using h23 (by simpa [did] using h), fun h => by simpa [sput] using h24 (by simpa [did] using h), kpv h25 (by decide) (by decide), kpv h26 (by decide) (by decide), kpv h27 (by decide) (by decide), fun h => by simpa [sput] using h28 (by simpa [did] using h), fun h => by simpa [sput] using h29 (by simpa [did] using h), kpv h30 (by decide) (by decide), kpv h31 (by decide) (by decide), kpv h32 (by decide) (by decide), hT⟩
    · have g15 := h15 (by simp [hdep])
      have g14 := h14 (by simp [hdep])
      refine stepG_on 14 109 false rfl rfl g14 ?_
      unfold OpSteps
      obtain ⟨p0, p1, p2, p3, p4⟩ := cells5 (Hx11.out.below hT Hx11.out.lt)
      simp [go_sem, evS, g15, g14, p0, p1, p2, p3, p4]
      exact ⟨kpv h0 (by decide) (by decide), kpv h1 (by decide) (by decide), kpv h2 (by decide) (by decide), kpv h3 (by decide) (by decide), kpv h4 (by decide) (by decide), kpv h5 (by decide) (by decide), kpv h6 (by decide) (by decide), kpv h7 (by decide) (by decide), kpv h8 (by decide) (by decide), kpv h9 (by decide) (by decide), kpv h10 (by decide) (by decide), kpv h11 (by decide) (by decide), kpv h12 (by decide) (by decide), kpv h13 (by decide) (by decide), kpv h14 (by decide) (by decide), kpv h15 (by decide) (by decide), fun _ => by simp [sput], kpv h17 (by decide) (by decide), kpv h18 (by decide) (by decide), kpv h19 (by decide) (by decide), kpv h20 (by decide) (by decide), kpv h21 (by decide) (by decide), kpv h22 (by decide) (by decide), fun h => by simpa [sput] using h23 (by simpa [did] using h), fun h => by simpa [sput] using h24 (by simpa [did] using h), kpv h25 (by decide) (by decide), kpv h26 (by decide) (by decide), kpv h27 (by decide) (by decide), fun h => by simpa [sput] using h28 (by simpa [did] using h), fun h => by simpa [sput] using h29 (by simpa [did] using h), kpv h30 (by decide) (by decide), kpv h31 (by decide) (by decide), kpv h32 (by decide) (by decide), hT⟩
    · have g14 := h14 (by simp [hdep])
      refine stepG_on 14 109 false rfl rfl g14 ?_
      unfold OpSteps
      simp [go_sem, evS, f3, g14]
      exact ⟨kpv h0 (by decide) (by decide), kpv h1 (by decide) (by decide), kpv h2 (by decide) (by decide), kpv h3 (by decide) (by decide), kpv h4 (by decide) (by decide), kpv h5 (by decide) (by decide), kpv h6 (by decide) (by decide), kpv h7 (by decide) (by decide), kpv h8 (by decide) (by decide), kpv h9 (by decide) (by decide), kpv h10 (by decide) (by decide), kpv h11 (by decide) (by decide), kpv h12 (by decide) (by decide), kpv h13 (by decide) (by decide), kpv h14 (by decide) (by decide), kpv h15 (by decide) (by decide), kpv h16 (by decide) (by decide), fun _ => by simp [sput], kpv h18 (by decide) (by decide), kpv h19 (by decide) (by decide), kpv h20 (by decide) (by decide), kpv h21 (by decide) (by decide), kpv h22 (by decide) (by decide), fun h => by simpa [sput] using h23 (by simpa [did] using h), fun h => by simpa [sput] using h24 (by simpa [did] using h), kpv h25 (by decide) (by decide), kpv h26 (by decide) (by decide), kpv h27 (by decide) (by decide), fun h => by simpa [sput] using h28 (by simpa [did] using h), fun h => by simpa [sput] using h29 (by simpa [did] using h), kpv h30 (by decide) (by decide), kpv h31 (by decide) (by decide), kpv h32 (by decide) (by decide), hT⟩
    · have g17 := h17 (by simp [hdep])
      have g14 := h14 (by simp [hdep])
      refine stepG_on 14 109 false rfl rfl g14 ?_
      unfold OpSteps
      obtain ⟨p0, p1, p2, p3, p4⟩ := cells5 (Hm11.out.below hT Hm11.out.lt)
      simp [go_sem, evS, g17, g14, p0, p1, p2, p3, p4]
      exact ⟨kpv h0 (by decide) (by decide), kpv h1 (by decide) (by decide), kpv h2 (by decide) (by decide), kpv h3 (by decide) (by decide), kpv h4 (by decide) (by decide), kpv h5 (by decide) (by decide), kpv h6 (by decide) (by decide), kpv h7 (by decide) (by decide), kpv h8 (by decide) (by decide), kpv h9 (by decide) (by decide), kpv h10 (by decide) (by decide), kpv h11 (by decide) (by decide), kpv h12 (by decide) (by decide), kpv h13 (by decide) (by decide), kpv h14 (by decide) (by decide), kpv h15 (by decide) (by decide), kpv h16 (by decide) (by decide), kpv h17 (by decide) (by decide), fun _ => by simp [sput], kpv h19 (by decide) (by decide), kpv h20 (by decide) (by decide), kpv h21 (by decide) (by decide), kpv h22 (by decide) (by decide), fun h => by simpa [sput] using h23 (by simpa [did] using h), fun h => by simpa [sput] using h24 (by simpa [did] using h), kpv h25 (by decide) (by decide), kpv h26 (by decide) (by decide), kpv h27 (by decide) (by decide), fun h => by simpa [sput] using h28 (by simpa [did] using h), fun h => by simpa [sput] using h29 (by simpa [did] using h), kpv h30 (by decide) (by decide), kpv h31 (by decide) (by decide), kpv h32 (by decide) (by decide), hT⟩
    · have g16 := h16 (by simp [hdep])
      have g18 := h18 (by simp [hdep])
      have g14 := h14 (by simp [hdep])
      refine stepG_on 14 109 false rfl rfl g14 ?_
      unfold OpSteps
      simp [go_sem, evS, g16, g18, g14, tC]
      exact ⟨kpv h0 (by decide) (by decide), kpv h1 (by decide) (by decide), kpv h2 (by decide) (by decide), kpv h3 (by decide) (by decide), kpv h4 (by decide) (by decide), kpv h5 (by decide) (by decide), kpv h6 (by decide) (by decide), kpv h7 (by decide) (by decide), kpv h8 (by decide) (by decide), kpv h9 (by decide) (by decide), kpv h10 (by decide) (by decide), kpv h11 (by decide) (by decide), kpv h12 (by decide) (by decide), kpv h13 (by decide) (by decide), kpv h14 (by decide) (by decide), kpv h15 (by decide) (by decide), kpv h16 (by decide) (by decide), kpv h17 (by decide) (by decide), kpv h18 (by decide) (by decide), fun _ => by simp [sput], kpv h20 (by decide) (by decide), kpv h21 (by decide) (by decide), kpv h22 (by decide) (by decide), fun h => by simpa [sput] using h23 (by simpa [did] using h), fun h => by simpa [sput] using h24 (by simpa [did] using h), kpv h25 (by decide) (by decide), kpv h26 (by decide) (by decide), kpv h27 (by decide) (by decide), fun h => by simpa [sput] using h28 (by simpa [did] using h), fun h => by simpa [sput] using h29 (by simpa [did] using h), kpv h30 (by decide) (by decide), kpv h31 (by decide) (by decide), kpv h32 (by decide) (by decide), hT⟩
    · have g14 := h14 (by simp [hdep])
      have g19 := h19 (by simp [hdep])
      refine stepG_plain rfl ?_
      unfold OpSteps
      simp [go_sem, evS, g14, g19]
      exact ⟨kpv h0 (by decide) (by decide), kpv h1 (by decide) (by decide), kpv h2 (by decide) (by decide), kpv h3 (by decide) (by decide), kpv h4 (by decide) (by decide), kpv h5 (by decide) (by decide), kpv h6 (by decide) (by decide), kpv h7 (by decide) (by decide), kpv h8 (by decide) (by decide), kpv h9 (by decide) (by decide), kpv h10 (by decide) (by decide), kpv h11 (by decide) (by decide), kpv h12 (by decide) (by decide), kpv h13 (by decide) (by decide), kpv h14 (by decide) (by decide), kpv h15 (by decide) (by decide), kpv h16 (by decide) (by decide), kpv h17 (by decide) (by decide), kpv h18 (by decide) (by decide), kpv h19 (by decide) (by decide), fun _ => by simp [sput], kpv h21 (by decide) (by decide), kpv h22 (by decide) (by decide), fun h => by simpa [sput] using h23 (by simpa [did] using h), fun h => by simpa [sput] using h24 (by simpa [did] using h), kpv h25 (by decide) (by decide), kpv h26 (by decide) (by decide), kpv h27 (by decide) (by decide), fun h => by simpa [sput] using h28 (by simpa [did] using h), fun h => by simpa [sput] using h29 (by simpa [did] using h), kpv h30 (by decide) (by decide), kpv h31 (by decide) (by decide), kpv h32 (by decide) (by decide), hT⟩
    · have g20 := h20 (by simp [hdep])
      refine stepG_plain rfl ?_
      unfold OpSteps
      simp [go_sem, evS, g20]
      exact ⟨kpv h0 (by decide) (by decide), kpv h1 (by decide) (by decide), kpv h2 (by decide) (by decide), kpv h3 (by decide) (by decide), kpv h4 (by decide) (by decide), kpv h5 (by decide) (by decide), kpv h6 (by decide) (by decide), kpv h7 (by decide) (by decide), kpv h8 (by decide) (by decide), kpv h9 (by decide) (by decide), kpv h10 (by decide) (by decide), kpv h11 (by decide) (by decide), kpv h12 (by decide) (by decide), kpv h13 (by decide) (by decide), kpv h14 (by decide) (by decide), kpv h15 (by decide) (by decide), kpv h16 (by decide) (by decide), kpv h17 (by decide) (by decide), kpv h18 (by decide) (by decide), kpv h19 (by decide) (by decide), kpv h20 (by decide) (by decide), fun _ => by simp [sput], kpv h22 (by decide) (by decide), fun h => by simpa [sput] using h23 (by simpa [did] using h), fun h => by simpa [sput] using h24 (by simpa [did] using h), kpv h25 (by decide) (by decide), kpv h26 (by decide) (by decide), kpv h27 (by decide) (by decide), fun h => by simpa [sput] using h28 (by simpa [did] using h), fun h => by simpa [sput] using h29 (by simpa [did] using h), kpv h30 (by decide) (by decide), kpv h31 (by decide) (by decide), kpv h32 (by decide) (by decide), hT⟩
    · have g21 := h21 (by simp [hdep])
      refine stepG_on 21 116 false rfl rfl g21 ?_
      unfold OpSteps
      obtain ⟨p0, p1, p2, p3, p4⟩ := cells5 (Hx11.out.below hT Hx11.out.lt)
      simp [go_sem, evS, f8, g21, p0, p1, p2, p3, p4]
      exact ⟨kpv h0 (by decide) (by decide), kpv h1 (by decide) (by decide), kpv h2 (by decide) (by decide), kpv h3 (by decide) (by decide), kpv h4 (by decide) (by decide), kpv h5 (by decide) (by decide), kpv h6 (by decide) (by decide), kpv h7 (by decide) (by decide), kpv h8 (by decide) (by decide), kpv h9 (by decide) (by decide), kpv h10 (by decide) (by decide), kpv h11 (by decide) (by decide), kpv h12 (by decide) (by decide), kpv h13 (by decide) (by decide), kpv h14 (by decide) (by decide), kpv h15 (by decide) (by decide), kpv h16 (by decide) (by decide), kpv h17 (by decide) (by decide), kpv h18 (by decide) (by decide), kpv h19 (by decide) (by decide), kpv h20 (by decide) (by decide), kpv h21 (by decide) (by decide), fun _ => by simp [sput], fun h => by simpa [sput] using h23 (by simpa [did] using h), fun h => by simpa [sput] using h24 (by simpa [did] using h), kpv h25 (by decide) (by decide), kpv h26 (by decide) (by decide), kpv h27 (by decide) (by decide), fun h => by simpa [sput] using h28 (by simpa [did] using h), fun h => by simpa [sput] using h29 (by simpa [did] using h), kpv h30 (by decide) (by decide), kpv h31 (by decide) (by decide), kpv h32 (by decide) (by decide), hT⟩
    · have g22 := h22 (by simp [hdep])
      have g21 := h21 (by simp [hdep])
      refine stepG_on 21 116 false rfl rfl g21 ?_
      unfold OpSteps
      simp [go_sem, evS, g22, g21]
      refine (HOx.out gx Mx W HMx.out (Hu11.out.nxt hT)).mono ?_
      rintro e W' ⟨g9, T9, rfl, hS9, hr9, hb⟩
      refine ⟨_, rfl, ?_⟩
      exact ⟨kpv h0 (by decide) (by decide), kpv h1 (by decide) (by decide), kpv h2 (by decide) (by decide), kpv h3 (by decide) (by decide), kpv h4 (by decide) (by decide), kpv h5 (by decide) (by decide), kpv h6 (by decide) (by decide), kpv h7 (by decide) (by decide), kpv h8 (by decide) (by decide), kpv h9 (by decide) (by decide), kpv h10 (by decide) (by decide), kpv h11 (by decide) (by decide), kpv h12 (by decide) (by decide), kpv h13 (by decide) (by decide), kpv h14 (by decide) (by decide), kpv h15 (by decide) (by decide), kpv h16 (by decide) (by decide), kpv h17 (by decide) (by decide), kpv h18 (by decide) (by decide), kpv h19 (by decide) (by decide), kpv h20 (by decide) (by decide), kpv h21 (by decide) (by decide), kpv h22 (by decide) (by decide), fun _ => ⟨g9, N, T9, by simp [sput], hS9, hr9⟩, fun h => by simpa [sput] using (h24 (by simpa [did] using h)).below hb, kpv h25 (by decide) (by decide), kpv h26 (by decide) (by decide), kpv h27 (by decide) (by decide), fun h => by simpa [sput] using (h28 (by simpa [did] using h)).below hb, fun h => by simpa [sput] using (h29 (by simpa [did] using h)).below hb, kpv h30 (by decide) (by decide), kpv h31 (by decide) (by decide), kpv h32 (by decide) (by decide), below_nx hT hb⟩
    · have g23 := h23 (by simp [hdep])
      have g21 := h21 (by simp [hdep])
      refine stepG_on 21 116 false rfl rfl g21 ?_
      unfold OpSteps
      obtain ⟨g9, c9, T9, gv, gS, gR⟩ := g23
      simp [go_sem, evS, g21, gv]
      exact ⟨kpv h0 (by decide) (by decide), kpv h1 (by decide) (by decide), kpv h2 (by decide) (by decide), kpv h3 (by decide) (by decide), kpv h4 (by decide) (by decide), kpv h5 (by decide) (by decide), kpv h6 (by decide) (by decide), kpv h7 (by decide) (by decide), kpv h8 (by decide) (by decide), kpv h9 (by decide) (by decide), kpv h10 (by decide) (by decide), kpv h11 (by decide) (by decide), kpv h12 (by decide) (by decide), kpv h13 (by decide) (by decide), kpv h14 (by decide) (by decide), kpv h15 (by decide) (by decide), kpv h16 (by decide) (by decide), kpv h17 (by decide) (by decide), kpv h18 (by decide) (by decide), kpv h19 (by decide) (by decide), kpv h20 (by decide) (by decide), kpv h21 (by decide) (by decide), kpv h22 (by decide) (by decide), fun h => by simpa [sput] using h23 (by simpa [did] using h), fun _ => ⟨some ⟨g9, 0, none⟩, c9, T9, by simp [sput], gS, gR⟩, kpv h25 (by decide) (by decide), kpv h26 (by decide) (by decide), kpv h27 (by decide) (by decide), fun h => by simpa [sput] using h28 (by simpa [did] using h), fun h => by simpa [sput] using h29 (by simpa [did] using h), kpv h30 (by decide) (by decide), kpv h31 (by decide) (by decide), kpv h32 (by decide) (by decide), hT⟩
    · have g21 := h21 (by simp [hdep])
      refine stepG_on 21 116 false rfl rfl g21 ?_
      unfold OpSteps
      obtain ⟨p0, p1, p2⟩ := cells3v (Ht11.out.below hT Ht11.out.lt)
      simp [go_sem, evS, f11, g21, p0, p1, p2]
      exact ⟨kpv h0 (by decide) (by decide), kpv h1 (by decide) (by decide), kpv h2 (by decide) (by decide), kpv h3 (by decide) (by decide), kpv h4 (by decide) (by decide), kpv h5 (by decide) (by decide), kpv h6 (by decide) (by decide), kpv h7 (by decide) (by decide), kpv h8 (by decide) (by decide), kpv h9 (by decide) (by decide), kpv h10 (by decide) (by decide), kpv h11 (by decide) (by decide), kpv h12 (by decide) (by decide), kpv h13 (by decide) (by decide), kpv h14 (by decide) (by decide), kpv h15 (by decide) (by decide), kpv h16 (by decide) (by decide), kpv h17 (by decide) (by decide), kpv h18 (by decide) (by decide), kpv h19 (by decide) (by decide), kpv h20 (by decide) (by decide), kpv h21 (by decide) (by decide), kpv h22 (by decide) (by decide), fun h => by simpa [sput] using h23 (by simpa [did] using h), fun h => by simpa [sput] using h24 (by simpa [did] using h), fun _ => by simp [sput], kpv h26 (by decide) (by decide), kpv h27 (by decide) (by decide), fun h => by simpa [sput] using h28 (by simpa [did] using h), fun h => by simpa [sput] using h29 (by simpa [did] using h), kpv h30 (by decide) (by decide), kpv h31 (by decide) (by decide), kpv h32 (by decide) (by decide), hT⟩
    · have g21 := h21 (by simp [hdep])
      refine stepG_on 21 116 false rfl rfl g21 ?_
      unfold OpSteps
      simp [go_sem, evS, f1, g21]
      exact ⟨kpv h0 (by decide) (by decide), kpv h1 (by decide) (by decide), kpv h2 (by decide) (by decide), kpv h3 (by decide) (by decide), kpv h4 (by decide) (by decide), kpv h5 (by decide) (by decide), kpv h6 (by decide) (by decide), kpv h7 (by decide) (by decide), kpv h8 (by decide) (by decide), kpv h9 (by decide) (by decide), kpv h10 (by decide) (by decide), kpv h11 (by decide) (by decide), kpv h12 (by decide) (by decide), kpv h13 (by decide) (by decide), kpv h14 (by decide) (by decide), kpv h15 (by decide) (by decide), kpv h16 (by decide) (by decide), kpv h17 (by decide) (by decide), kpv h18 (by decide) (by decide), kpv h19 (by decide) (by decide), kpv h20 (by decide) (by decide), kpv h21 (by decide) (by decide), kpv h22 (by decide) (by decide), fun h => by simpa [sput] using h23 (by simpa [did] using h), fun h => by simpa [sput] using h24 (by simpa [did] using h), kpv h25 (by decide) (by decide), fun _ => by simp [sput], kpv h27 (by decide) (by decide), fun h => by simpa [sput] using h28 (by simpa [did] using h), fun h => by simpa [sput] using h29 (by simpa [did] using h), kpv h30 (by decide) (by decide), kpv h31 (by decide) (by decide), kpv h32 (by decide) (by decide), hT⟩
    · have g21 := h21 (by simp [hdep])
      refine stepG_on 21 116 false rfl rfl g21 ?_
      unfold OpSteps
      simp [go_sem, evS, f2, g21]
      exact ⟨kpv h0 (by decide) (by decide), kpv h1 (by decide) (by decide), kpv h2 (by decide) (by decide), kpv h3 (by decide) (by decide), kpv h4 (by decide) (by decide), kpv h5 (by decide) (by decide), kpv h6 (by decide) (by decide), kpv h7 (by decide) (by decide), kpv h8 (by decide) (by decide), kpv h9 (by decide) (by decide), kpv h10 (by decide) (by decide), kpv h11 (by decide) (by decide), kpv h12 (by decide) (by decide), kpv h13 (by decide) (by decide), kpv h14 (by decide) (by decide), kpv h15 (by decide) (by decide), kpv h16 (by decide) (by decide), kpv h17 (by decide) (by decide), kpv h18 (by decide) (by decide), kpv h19 (by decide) (by decide), kpv h20 (by decide) (by decide), kpv h21 (by decide) (by decide), kpv h22 (by decide) (by decide), fun h => by simpa [sput] using h23 (by simpa [did] using h), fun h => by simpa [sput] using h24 (by simpa [did] using h), kpv h25 (by decide) (by decide), kpv h26 (by decide) (by decide), fun _ => by simp [sput], fun h => by simpa [sput] using h28 (by simpa [did] using h), fun h => by simpa [sput] using h29 (by simpa [did] using h), kpv h30 (by decide) (by decide), kpv h31 (by decide) (by decide), kpv h32 (by decide) (by decide), hT⟩
    · have g25 := h25 (by simp [hdep])
      have g26 := h26 (by simp [hdep])
      have g27 := h27 (by simp [hdep])
      have g21 := h21 (by simp [hdep])
      refine stepG_on 21 116 false rfl rfl g21 ?_
      unfold OpSteps
      simp [go_sem, evS, g25, g26, g27, g21]
      refine (HRs.out gT N T W (below_nx HB11.out hT) HTt.out (HT11.out.below hT)).mono ?_
      rintro e W' ⟨g9, c9, T9, rfl, hS9, hr9, hb⟩
      refine ⟨_, rfl, ?_⟩
      exact ⟨kpv h0 (by decide) (by decide), kpv h1 (by decide) (by decide), kpv h2 (by decide) (by decide), kpv h3 (by decide) (by decide), kpv h4 (by decide) (by decide), kpv h5 (by decide) (by decide), kpv h6 (by decide) (by decide), kpv h7 (by decide) (by decide), kpv h8 (by decide) (by decide), kpv h9 (by decide) (by decide), kpv h10 (by decide) (by decide), kpv h11 (by decide) (by decide), kpv h12 (by decide) (by decide), kpv h13 (by decide) (by decide), kpv h14 (by decide) (by decide), kpv h15 (by decide) (by decide), kpv h16 (by decide) (by decide), kpv h17 (by decide) (by decide), kpv h18 (by decide) (by decide), kpv h19 (by decide) (by decide), kpv h20 (by decide) (by decide), kpv h21 (by decide) (by decide), kpv h22 (by decide) (by decide), fun h => by simpa [sput] using (h23 (by simpa [did] using h)).below hb, fun h => by simpa [sput] using (h24 (by simpa [did] using h)).below hb, kpv h25 (by decide) (by decide), kpv h26 (by decide) (by decide), kpv h27 (by decide) (by decide), fun _ => ⟨g9, c9, T9, by simp [sput], hS9, hr9⟩, fun h => by simpa [sput] using (h29 (by simpa [did] using h)).below hb, kpv h30 (by decide) (by decide), kpv h31 (by decide) (by decide), kpv h32 (by decide) (by decide), below_nx hT hb⟩
    · have g28 := h28 (by simp [hdep])
      have g21 := h21 (by simp [hdep])
      refine stepG_on 21 116 false rfl rfl g21 ?_
      unfold OpSteps
      obtain ⟨g9, c9, T9, gv, gS, gR⟩ := g28
      simp [go_sem, evS, g21, gv]
      exact ⟨kpv h0 (by decide) (by decide), kpv h1 (by decide) (by decide), kpv h2 (by decide) (by decide), kpv h3 (by decide) (by decide), kpv h4 (by decide) (by decide), kpv h5 (by decide) (by decide), kpv h6 (by decide) (by decide), kpv h7 (by decide) (by decide), kpv h8 (by decide) (by decide), kpv h9 (by decide) (by decide), kpv h10 (by decide) (by decide), kpv h11 (by decide) (by decide), kpv h12 (by decide) (by decide), kpv h13 (by decide) (by decide), kpv h14 (by decide) (by decide), kpv h15 (by decide) (by decide), kpv h16 (by decide) (by decide), kpv h17 (by decide) (by decide), kpv h18 (by decide) (by decide), kpv h19 (by decide) (by decide), kpv h20 (by decide) (by decide), kpv h21 (by decide) (by decide), kpv h22 (by decide) (by decide), fun h => by simpa [sput] using h23 (by simpa [did] using h), fun h => by simpa [sput] using h24 (by simpa [did] using h), kpv h25 (by decide) (by decide), kpv h26 (by decide) (by decide), kpv h27 (by decide) (by decide), fun h => by simpa [sput] using h28 (by simpa [did] using h), fun _ => ⟨some ⟨g9, 0, none⟩, c9, T9, by simp [sput], gS, gR⟩, kpv h30 (by decide) (by decide), kpv h31 (by decide) (by decide), kpv h32 (by decide) (by decide), hT⟩
    · have g24 := h24 (by simp [hdep])
      have g29 := h29 (by simp [hdep])
      have g21 := h21 (by simp [hdep])
      refine stepG_on 21 116 false rfl rfl g21 ?_
      unfold OpSteps
      obtain ⟨A9, a9, X9, gv, gS, gR⟩ := g24
      obtain ⟨B9, b9, Y9, gv2, gS2, gR2⟩ := g29
      simp [go_sem, evS, g21, gv, gv2]
      refine (HAlF.out W A9 B9 a9 b9 X9 Y9 gS gS2 gR gR2).mono ?_
      rintro e W' ⟨rfl, hb⟩
      refine ⟨_, rfl, ?_⟩
      exact ⟨kpv h0 (by decide) (by decide), kpv h1 (by decide) (by decide), kpv h2 (by decide) (by decide), kpv h3 (by decide) (by decide), kpv h4 (by decide) (by decide), kpv h5 (by decide) (by decide), kpv h6 (by decide) (by decide), kpv h7 (by decide) (by decide), kpv h8 (by decide) (by decide), kpv h9 (by decide) (by decide), kpv h10 (by decide) (by decide), kpv h11 (by decide) (by decide), kpv h12 (by decide) (by decide), kpv h13 (by decide) (by decide), kpv h14 (by decide) (by decide), kpv h15 (by decide) (by decide), kpv h16 (by decide) (by decide), kpv h17 (by decide) (by decide), kpv h18 (by decide) (by decide), kpv h19 (by decide) (by decide), kpv h20 (by decide) (by decide), kpv h21 (by decide) (by decide), kpv h22 (by decide) (by decide), fun h => by simpa [sput] using (h23 (by simpa [did] using h)).below hb, fun h => by simpa [sput] using (h24 (by simpa [did] using h)).below hb, kpv h25 (by decide) (by decide), kpv h26 (by decide) (by decide), kpv h27 (by decide) (by decide), fun h => by simpa [sput] using (h28 (by simpa [did] using h)).below hb, fun h => by simpa [sput] using (h29 (by simpa [did] using h)).below hb, fun _ => by simp [sput], kpv h31 (by decide) (by decide), kpv h32 (by decide) (by decide), below_nx hT hb⟩
    · have g30 := h30 (by simp [hdep])
      have g21 := h21 (by simp [hdep])
      refine stepG_on 21 116 false rfl rfl g21 ?_
      unfold OpSteps
      simp [go_sem, evS, g30, g21]
      exact ⟨kpv h0 (by decide) (by decide), kpv h1 (by decide) (by decide), kpv h2 (by decide) (by decide), kpv h3 (by decide) (by decide), kpv h4 (by decide) (by decide), kpv h5 (by decide) (by decide), kpv h6 (by decide) (by decide), kpv h7 (by decide) (by decide), kpv h8 (by decide) (by decide), kpv h9 (by decide) (by decide), kpv h10 (by decide) (by decide), kpv h11 (by decide) (by decide), kpv h12 (by decide) (by decide), kpv h13 (by decide) (by decide), kpv h14 (by decide) (by decide), kpv h15 (by decide) (by decide), kpv h16 (by decide) (by decide), kpv h17 (by decide) (by decide), kpv h18 (by decide) (by decide), kpv h19 (by decide) (by decide), kpv h20 (by decide) (by decide), kpv h21 (by decide) (by decide), kpv h22 (by decide) (by decide), fun h => by simpa [sput] using h23 (by simpa [did] using h), fun h => by simpa [sput] using h24 (by simpa [did] using h), kpv h25 (by decide) (by decide), kpv h26 (by decide) (by decide), kpv h27 (by decide) (by decide), fun h => by simpa [sput] using h28 (by simpa [did] using h), fun h => by simpa [sput] using h29 (by simpa [did] using h), kpv h30 (by decide) (by decide), fun _ => by simp [sput], kpv h32 (by decide) (by decide), hT⟩
    · have g21 := h21 (by simp [hdep])
      have g31 := h31 (by simp [hdep])
      refine stepG_plain rfl ?_
      unfold OpSteps
      simp [go_sem, evS, g21, g31]
      exact ⟨kpv h0 (by decide) (by decide), kpv h1 (by decide) (by decide), kpv h2 (by decide) (by decide), kpv h3 (by decide) (by decide), kpv h4 (by decide) (by decide), kpv h5 (by decide) (by decide), kpv h6 (by decide) (by decide), kpv h7 (by decide) (by decide), kpv h8 (by decide) (by decide), kpv h9 (by decide) (by decide), kpv h10 (by decide) (by decide), kpv h11 (by decide) (by decide), kpv h12 (by decide) (by decide), kpv h13 (by decide) (by decide), kpv h14 (by decide) (by decide), kpv h15 (by decide) (by decide), kpv h16 (by decide) (by decide), kpv h17 (by decide) (by decide), kpv h18 (by decide) (by decide), kpv h19 (by decide) (by decide), kpv h20 (by decide) (by decide), kpv h21 (by decide) (by decide), kpv h22 (by decide) (by decide), fun h => by simpa [sput] using h23 (by simpa [did] using h), fun h => by simpa [sput] using h24 (by simpa [did] using h), kpv h25 (by decide) (by decide), kpv h26 (by decide) (by decide), kpv h27 (by decide) (by decide), fun h => by simpa [sput] using h28 (by simpa [did] using h), fun h => by simpa [sput] using h29 (by simpa [did] using h), kpv h30 (by decide) (by decide), kpv h31 (by decide) (by decide), fun _ => by simp [sput], hT⟩
  intro d s W hJ hd
  obtain ⟨h0, h1, h2, h3, h4, h5, h6, h7, h8, h9, h10, h11, h12, h13, h14, h15, h16, h17, h18, h19, h20, h21, h22, h23, h24, h25, h26, h27, h28, h29, h30, h31, h32, hT⟩ := hJ
  have hs98 := h32 (hd 32 (by decide))
  have hb : Below wg.heap.size wg W := hT
  clear h0 h1 h2 h3 h4 h5 h6 h7 h8 h9 h10 h11 h12 h13 h14 h15 h16 h17 h18 h19 h20 h21 h22 h23 h24 h25 h26 h27 h28 h29 h30 h31 h32 hT hd
  simp [setAll, hs98]
  clear hs98
  generalize s 95 = s95
  generalize s 96 = s96
  generalize s 97 = s97
  generalize s 98 = s98
  generalize s 99 = s99
  generalize s 100 = s100
  generalize s 101 = s101
  generalize s 102 = s102
  generalize s 103 = s103
  generalize s 104 = s104
  generalize s 105 = s105
  generalize s 106 = s106
  generalize s 107 = s107
  generalize s 108 = s108
  generalize s 109 = s109
  generalize s 110 = s110
  generalize s 111 = s111
  generalize s 112 = s112
  generalize s 113 = s113
  generalize s 114 = s114
  generalize s 115 = s115
  generalize s 116 = s116
  generalize s 117 = s117
  generalize s 118 = s118
  generalize s 119 = s119
  generalize s 120 = s120
  generalize s 121 = s121
  generalize s 122 = s122
  generalize s 123 = s123
  generalize s 124 = s124
  generalize s 125 = s125
  generalize s 126 = s126
  generalize W = wx at *
  have Hm12 := Lib.hid (Hm11.out.nxt hb)
  have Hk12 := Lib.hid (Hk11.out.nxt hb)
  have Hx12 := Lib.hid (Hx11.out.nxt hb)
  have Ht12 := Lib.hid (Ht11.out.nxt hb)
  have Hn12 := Lib.hid (Hn11.out.nxt hb)
  have Hu12 := Lib.hid (Hu11.out.nxt hb)
  have HT12 := Lib.hid (HT11.out.below hb)
  have HB12 := Lib.hid (below_nx HB11.out hb)
  clear hb
  clear m0 m1 m2 m3 m4 k0 k1 k2 k3 k4 x0 x1 x2 x3 x4 t0 t1 t2
  obtain ⟨m0, m1, m2, m3, m4⟩ := cells5 Hm12.out
  obtain ⟨k0, k1, k2, k3, k4⟩ := cells5 Hk12.out
  obtain ⟨x0, x1, x2, x3, x4⟩ := cells5 Hx12.out
  obtain ⟨t0, t1, t2⟩ := cells3v Ht12.out
  clear m0 m1 m2 m3 m4 k0 k1 k2 k3 k4 x0 x1 x2 x3 x4 t0 t1 t2
  go_wp2_with fail
  go_loopw [12] (fun a wr => ∃ q : Nat, q ≤ R ∧ a = .int .i64 q ∧ Hid (∀ i, i < q → -10000 ≤ zr.getD i 0 ∧ zr.getD i 0 ≤ 10000) ∧ Below wx.heap.size wx wr) (fun a _ => R - (intOf a).toNat)
  case atStart => exact ⟨0, Nat.zero_le _, rfl, Lib.hid (fun i hi => by omega), Below.refl _ _⟩
  case round =>
    obtain ⟨q, hq, rfl, HQ, hbl⟩ := hrel
    have HBl := Lib.hid hbl
    clear hbl
    by_cases hlt : q < R
    · have hqc : (q : Int) < (R : Int) := by omega
      have hq1 : q + 1 ≤ 1048576 := by have := HRC.out; omega
      obtain ⟨br, y0, rfl, hcr⟩ := int_get (HZr.out.1.below (below_nx HB12.out HBl.out)) HZr.out.2 hlt
      have HNx := Lib.hid (fun (h : -10000 ≤ zr.getD q 0 ∧ zr.getD q 0 ≤ 10000) => show ∀ i, i < q + 1 → -10000 ≤ zr.getD i 0 ∧ zr.getD i 0 ≤ 10000 from fun i hi => by
        by_cases e : i = q
        · rw [e]; exact h
        · exact HQ.out i (by omega))
      obtain ⟨a, ha⟩ : ∃ a, zr.getD q 0 = a := ⟨_, rfl⟩
      rw [ha] at hcr HNx
      clear ha
      by_cases h1 : (10000 : Int) < a
      · go_wp2_with fail
        refine (awake15_any _).mono ?_
        rintro e wz ⟨rfl, hb⟩
        have HBz := Lib.hid (below_nx (below_nx HB12.out HBl.out) hb)
        clear hb
        go_wp2_with fail
        go_ret
        exact ⟨rfl, HBz.out⟩
      · by_cases h2 : a < -10000
        · go_wp2_with fail
          refine (awake15_any _).mono ?_
          rintro e wz ⟨rfl, hb⟩
          have HBz := Lib.hid (below_nx (below_nx HB12.out HBl.out) hb)
          clear hb
          go_wp2_with fail
          go_ret
          exact ⟨rfl, HBz.out⟩
        · have HN1 := Lib.hid (HNx.out (by omega))
          go_wp2_with fail
          go_roundw
          case rel => exact ⟨q + 1, by omega, by go_num, Lib.hid HN1.out, HBl.out⟩
          case measure => simp [intOf]; omega
    · obtain rfl : R = q := by omega
      have hqc : ¬ (R : Int) < (R : Int) := by omega
      have HQ1 := Lib.hid HQ.out
      have HBw := Lib.hid (below_nx HB12.out HBl.out)
      have Htw := Lib.hid (Ht12.out.nxt HBl.out)
      have HTw := Lib.hid (HT12.out.below HBl.out)
      clear HBl HQ
      go_wp2_with fail
      generalize wr = ws at *
      go_loopw [13] (fun a wr => ∃ q : Nat, q ≤ C ∧ a = .int .i64 q ∧ Hid (∀ i, i < q → -10000 ≤ zc.getD i 0 ∧ zc.getD i 0 ≤ 10000) ∧ Below ws.heap.size ws wr) (fun a _ => C - (intOf a).toNat)
      case atStart => exact ⟨0, Nat.zero_le _, rfl, Lib.hid (fun i hi => by omega), Below.refl _ _⟩
      case round =>
        obtain ⟨q, hq, rfl, HQ, hbl⟩ := hrel
        have HBl := Lib.hid hbl
        clear hbl
        by_cases hlt : q < C
        · have hqc : (q : Int) < (C : Int) := by omega
          have hq1 : q + 1 ≤ 1048576 := by have := HRC.out; omega
          obtain ⟨br, y0, rfl, hcr⟩ := int_get (HZc.out.1.below (below_nx HBw.out HBl.out)) HZc.out.2 hlt
          have HNx := Lib.hid (fun (h : -10000 ≤ zc.getD q 0 ∧ zc.getD q 0 ≤ 10000) => show ∀ i, i < q + 1 → -10000 ≤ zc.getD i 0 ∧ zc.getD i 0 ≤ 10000 from fun i hi => by
            by_cases e : i = q
            · rw [e]; exact h
            · exact HQ.out i (by omega))
          obtain ⟨a, ha⟩ : ∃ a, zc.getD q 0 = a := ⟨_, rfl⟩
          rw [ha] at hcr HNx
          clear ha
          by_cases h1 : (10000 : Int) < a
          · go_wp2_with fail
            refine (awake15_any _).mono ?_
            rintro e wz ⟨rfl, hb⟩
            have HBz := Lib.hid (below_nx (below_nx HBw.out HBl.out) hb)
            clear hb
            go_wp2_with fail
            go_ret
            exact ⟨rfl, HBz.out⟩
          · by_cases h2 : a < -10000
            · go_wp2_with fail
              refine (awake15_any _).mono ?_
              rintro e wz ⟨rfl, hb⟩
              have HBz := Lib.hid (below_nx (below_nx HBw.out HBl.out) hb)
              clear hb
              go_wp2_with fail
              go_ret
              exact ⟨rfl, HBz.out⟩
            · have HN1 := Lib.hid (HNx.out (by omega))
              go_wp2_with fail
              go_roundw
              case rel => exact ⟨q + 1, by omega, by go_num, Lib.hid HN1.out, HBl.out⟩
              case measure => simp [intOf]; omega
        · obtain rfl : C = q := by omega
          have hqc : ¬ (C : Int) < (C : Int) := by omega
          have HQ2 := Lib.hid HQ.out
          have HBy := Lib.hid (below_nx HBw.out HBl.out)
          have Hty := Lib.hid ((Htw.out.nxt HBl.out))
          have HTy := Lib.hid (HTw.out.below HBl.out)
          clear HBl
          obtain ⟨t0, t1, t2⟩ := cells3v Hty.out
          go_wp2_with fail
          refine (HRx.out gT T _ HBy.out HTt.out HTy.out HQ1.out HQ2.out).mono ?_
          rintro e wz ⟨rfl, hb⟩
          have HBz := Lib.hid (below_nx HBy.out hb)
          clear hb t0 t1 t2
          cases xb
          all_goals
            go_wp2_with fail
            refine (awake15_any _).mono ?_
            rintro e wq ⟨rfl, hb⟩
            have HBq := Lib.hid (below_nx HBz.out hb)
            clear hb
            go_wp2_with fail
            go_ret
            exact ⟨rfl, HBq.out⟩

theorem equilScales_walk (Am : Option Addr) (cm : Nat) (lm : List Nat) (mo mr mk ml : Int) (B : Option Addr) (rc : Nat) (zr : List Int) (E : Option Addr) (kc : Nat) (zc : List Int) (w : World) (hAm : Row w Am (f64s lm)) (hWm : Wds lm) (hnc : lm.length ≤ cm) (hmo : I64 mo) (hmr : I64 mr) (hmk : I64 mk) (hml : I64 ml) (hZr : Row w B (i64s zr)) (hZc : Row w E (i64s zc)) :
    Calls Try.prog 4 #[mat Am lm.length cm mo mr mk ml, .slice B zr.length rc, .slice E zc.length kc] w fun e w' => e = .returned (.bool true) ∧ Below w.heap.size w w' := by
  by_cases hg : greatB lm.length mr mk = true ∨ 60 < zr.length ∨ 60 < zc.length
  · exact equilScales_great Am _ cm lm mo mr mk ml B _ rc zr E _ kc zc w hg
  · have hG : greatB lm.length mr mk = false := by
      cases h : greatB lm.length mr mk
      · rfl
      · exact absurd (.inl h) hg
    have hn : lm.length ≤ 1000 ∧ mr ≤ 20 ∧ mk ≤ 20 := by have h := hG; unfold greatB at h; simp at h; omega
    have h60 : zr.length ≤ 60 ∧ zc.length ≤ 60 := by omega
    cases h : matB lm.length mo mr mk ml
    · exact equilScales_bad Am _ cm lm mo mr mk ml B _ rc zr E _ kc zc w hAm hWm rfl hn.1 h60.1 h60.2 hG hmo hmr hmk hml h
    · obtain ⟨o, R, C, L, rfl, rfl, rfl, rfl, hL1, hRL, hmr2⟩ := mat_nat h
      by_cases hs : zr.length = R ∧ zc.length = C
      · obtain ⟨h1, h2⟩ := hs
        rw [h1, h2]
        exact equilScales_ok Am _ cm lm o R C L B rc zr E kc zc w hAm hWm rfl hn.1 hG ⟨by omega, by omega⟩ hmo hml hL1 hRL hmr2 hZr h1 hZc h2
      · refine equilScales_size Am _ cm lm o R C L B _ rc zr E _ kc zc w hAm hWm rfl hn.1 h60.1 h60.2 hG ⟨by omega, by omega⟩ hmo hml hL1 hRL hmr2 _ _ rfl rfl ?_
        cases h1 : ((zr.length : Int) != (R : Int))
        · right
          refine ⟨rfl, ?_⟩
          simp at h1
          simp
          omega
        · exact .inl rfl
end Go.Proofs.Ytelpdbkkefpjhaa
