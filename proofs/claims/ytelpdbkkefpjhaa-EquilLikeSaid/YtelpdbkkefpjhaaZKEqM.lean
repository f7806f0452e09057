/-
EquilLike. Conditions: none.
-/
import Derived.Test.YtelpdbkkefpjhaaZKEqM0
import Derived.Test.YtelpdbkkefpjhaaZKEqH
import Derived.Test.YtelpdbkkefpjhaaZKGrE
import Derived.Test.YtelpdbkkefpjhaaWKg
set_option linter.unusedVariables false
set_option linter.unusedSimpArgs false
set_option linter.unnecessarySimpa false
namespace Go.Proofs.Ytelpdbkkefpjhaa
open Go.RowKit
attribute [local go_sem ↓] Go.wp_at_zero Go.wp_at_succ

set_option maxRecDepth 100000 in
set_option maxHeartbeats 2000000 in
theorem equilLike_great (Am : Option Addr) (nm cm : Nat) (mo mr mk ml : Int) (w : World) (h : greatB nm mr mk = true) : Calls Try.prog 5 #[mat Am nm cm mo mr mk ml] w fun e w' => e = .returned (.bool true) ∧ Below w.heap.size w w' := by
  have HGr := Lib.hid (fun W => great_any Am nm cm mo mr mk ml W)
  rw [h] at HGr
  clear h
  unfold mat at *
  go_enter Try.func5, Try.ntmps5
  have Hm0 := Lib.hid (Blk.new w 24 #[.slice Am nm cm, .int .i64 mo, .int .i64 mr, .int .i64 mk, .int .i64 ml])
  have HB0 := Lib.hid ((Below.refl w.heap.size w).alloc (Nat.le_refl _) (.cells #[.slice Am nm cm, .int .i64 mo, .int .i64 mr, .int .i64 mk, .int .i64 ml] 24))
  obtain ⟨m0, m1, m2, m3, m4⟩ := cells5 Hm0.out
  go_wp2_with fail
  refine (awake15_any _).mono ?_
  rintro e w1 ⟨rfl, hb⟩
  have Hm1 := Lib.hid (Hm0.out.nxt hb)
  have HB1 := Lib.hid (below_nx HB0.out hb)
  clear hb
  clear m0 m1 m2 m3 m4
  obtain ⟨m0, m1, m2, m3, m4⟩ := cells5 Hm1.out
  go_wp2_with fail
  refine (HGr.out _).mono ?_
  rintro e w2 ⟨rfl, hb⟩
  have Hm2 := Lib.hid (Hm1.out.nxt hb)
  have HB2 := Lib.hid (below_nx HB1.out hb)
  clear hb
  clear m0 m1 m2 m3 m4
  obtain ⟨m0, m1, m2, m3, m4⟩ := cells5 Hm2.out
  go_wp2_with fail
  refine (awake15_any _).mono ?_
  rintro e w3 ⟨rfl, hb⟩
  have Hm3 := Lib.hid (Hm2.out.nxt hb)
  have HB3 := Lib.hid (below_nx HB2.out hb)
  clear hb
  clear m0 m1 m2 m3 m4
  obtain ⟨m0, m1, m2, m3, m4⟩ := cells5 Hm3.out
  go_wp2_with fail
  go_ret
  exact ⟨rfl, HB3.out⟩

set_option maxRecDepth 100000 in
set_option maxHeartbeats 2000000 in
theorem equilLike_err (Am : Option Addr) (nm cm : Nat) (mo mr mk ml : Int) (w : World) (hG : greatB nm mr mk = false) (K E : Int) (hE : (E != 0) = true) (h : ∀ W, Below w.heap.size w W → Calls Try.prog 8 #[mat Am nm cm mo mr mk ml] W fun e w' => e = .returned (.tuple #[.slice none 0 0, .slice none 0 0, .int .i64 K, .int .i64 E]) ∧ Below W.heap.size W w') : Calls Try.prog 5 #[mat Am nm cm mo mr mk ml] w fun e w' => e = .returned (.bool true) ∧ Below w.heap.size w w' := by
  have HGr := Lib.hid (fun W => great_any Am nm cm mo mr mk ml W)
  rw [hG] at HGr
  have H1 := Lib.hid h
  clear h hG
  unfold mat at *
  go_enter Try.func5, Try.ntmps5
  have Hm0 := Lib.hid (Blk.new w 24 #[.slice Am nm cm, .int .i64 mo, .int .i64 mr, .int .i64 mk, .int .i64 ml])
  have HB0 := Lib.hid ((Below.refl w.heap.size w).alloc (Nat.le_refl _) (.cells #[.slice Am nm cm, .int .i64 mo, .int .i64 mr, .int .i64 mk, .int .i64 ml] 24))
  obtain ⟨m0, m1, m2, m3, m4⟩ := cells5 Hm0.out
  go_wp2_with fail
  refine (awake15_any _).mono ?_
  rintro e w1 ⟨rfl, hb⟩
  have Hm1 := Lib.hid (Hm0.out.nxt hb)
  have HB1 := Lib.hid (below_nx HB0.out hb)
  clear hb
  clear m0 m1 m2 m3 m4
  obtain ⟨m0, m1, m2, m3, m4⟩ := cells5 Hm1.out
  go_wp2_with fail
  refine (HGr.out _).mono ?_
  rintro e w2 ⟨rfl, hb⟩
  have Hm2 := Lib.hid (Hm1.out.nxt hb)
  have HB2 := Lib.hid (below_nx HB1.out hb)
  clear hb
  clear m0 m1 m2 m3 m4
  obtain ⟨m0, m1, m2, m3, m4⟩ := cells5 Hm2.out
  go_wp2_with fail
  refine (H1.out _ HB2).mono ?_
  rintro e w3 ⟨rfl, hb⟩
  have Hm3 := Lib.hid (Hm2.out.nxt hb)
  have HB3 := Lib.hid (below_nx HB2.out hb)
  clear hb
  clear m0 m1 m2 m3 m4
  obtain ⟨m0, m1, m2, m3, m4⟩ := cells5 Hm3.out
  go_wp2_with fail
  refine (awake15_any _).mono ?_
  rintro e w4 ⟨rfl, hb⟩
  have Hm4 := Lib.hid (Hm3.out.nxt hb)
  have HB4 := Lib.hid (below_nx HB3.out hb)
  clear hb
  clear m0 m1 m2 m3 m4
  obtain ⟨m0, m1, m2, m3, m4⟩ := cells5 Hm4.out
  go_wp2_with fail
  go_ret
  exact ⟨rfl, HB4.out⟩

theorem ShfS.at_ {zr zc : List Int} {l M T : List Nat} {o R C L D N i j : Nat} (hN : R * C = N) (h : SclS zr zc l o R C L D N M) (ht : Tab M 0 R C D N T) (hi : i < R) (hj : j < C) : T.getD (i * C + j) 0 = sclX zr zc (tX l o L) i j := by
  rw [tab_get ht hN hi hj, h.at_ hi hj]

set_option maxRecDepth 100000 in
set_option maxHeartbeats 8000000 in
theorem equilLike_ok (Am : Option Addr) (nm cm : Nat) (lm : List Nat) (o R C L : Nat) (w : World) (hAm : Row w Am (f64s lm)) (hWm : Wds lm) (hlm : lm.length = nm) (hnc : nm ≤ cm) (hn : nm ≤ 1000) (hoI : I64 o) (hLI : I64 L) (hR : R ≤ 20) (hC : C ≤ 20) (hL1 : 1 ≤ L) (hRL : R ≤ L) (hmr : R = 0 ∨ C = 0 ∨ o + (C - 1) * L + (R - 1) < nm) (hfin : finsB lm o R C L = true) (hK : fAt (tX lm o L) R C = 0) :
    Calls Try.prog 5 #[mat Am nm cm o R C L] w fun e w' => e = .returned (.bool true) ∧ Below w.heap.size w w' := by
  have hG : greatB nm (R : Int) (C : Int) = false := by unfold greatB; simp; omega
  have HGr := Lib.hid (fun W => great_any Am nm cm o R C L W)
  rw [hG] at HGr
  obtain ⟨N, hN⟩ : ∃ N, R * C = N := ⟨_, rfl⟩
  obtain ⟨D, hD⟩ : ∃ D, max 1 R = D := ⟨_, rfl⟩
  have hNb : N ≤ 400 := by
    have h1 : R * C ≤ 20 * 20 := Nat.mul_le_mul hR hC
    omega
  have hfx : ∀ i, i < R → ∀ j, j < C → Fl.fin (tX lm o L i j) = true := (finsB_iff lm o R C L).1 hfin
  obtain ⟨zr, hzr⟩ : ∃ z, cnt (rE (tX lm o L) C) R = z := ⟨_, rfl⟩
  obtain ⟨zc, hzc⟩ : ∃ z, cnt (cE (tX lm o L) R C) C = z := ⟨_, rfl⟩
  have hzrl : zr.length = R := by rw [← hzr]; exact cnt_length _ _
  have hzcl : zc.length = C := by rw [← hzc]; exact cnt_length _ _
  obtain ⟨V, hV⟩ : ∃ V, sclX zr zc (tX lm o L) = V := ⟨_, rfl⟩
  have hVo : ∀ i, i < R → ∀ j, j < C → V i j = own (tX lm o L) R C i j := fun i hi j hj => by rw [← hV, ← hzr, ← hzc]; exact own_scl hi hj
  have HLt := Lib.hid (fun i (hi : i < R) j (hj : j < C) => show Fl.rung (V i j) < 4611686018427387904 by rw [hVo i hi j hj]; exact own_lt hfx hK hi hj)
  have HGe := Lib.hid (fun j (hj : j < C) => show anyB (fun i => geB (V i j)) R = true by
    have h := own_ge hfx hK hj
    have e : ∀ n, n ≤ R → anyB (fun i => geB (V i j)) n = anyB (fun i => geB (own (tX lm o L) R C i j)) n := by
      intro n
      induction n with
      | zero => intro _; rfl
      | succ n ih => intro hn; rw [anyB, anyB, ih (by omega), hVo n (by omega) j hj]
    rw [e R (Nat.le_refl _)]
    exact h)
  have HVl := Lib.hid (fun i j => show V i j < 18446744073709551616 by rw [← hV]; exact Fl.scale_lt (tX_lt hWm o L i j) _)
  have HFc := Lib.hid (fun W (hb : Below w.heap.size w W) => show Calls Try.prog 8 #[mat Am nm cm o R C L] W fun e w' => ∃ A c B d, e = .returned (.tuple #[.slice A R c, .slice B C d, .int .i64 0, .int .i64 0]) ∧ Row w' A (i64s zr) ∧ Row w' B (i64s zc) ∧ Below W.heap.size W w' from by
    refine (eqfactors_any Am nm cm lm o R C L W (hAm.below hb) hWm hlm hnc (by omega) hoI hLI (by omega) (by omega) hL1 hRL hmr hfin).mono ?_
    rintro e w' (⟨A, c, B, d, h0, rfl, h1, h2, _, _, h3⟩ | ⟨k, h1, h2, rfl, h3⟩)
    · exact ⟨A, c, B, d, rfl, by rw [← hzr]; exact h1, by rw [← hzc]; exact h2, h3⟩
    · exact absurd (h1.symm.trans hK) h2)
  have HSc := Lib.hid (fun (A : Option Addr) (c : Nat) (B : Option Addr) (d : Nat) W (hb : Below w.heap.size w W) (hA1 : Row W A (i64s zr)) (hB1 : Row W B (i64s zc)) => show Calls Try.prog 15 #[mat Am nm cm o R C L, .slice A R c, .slice B C d] W fun e w' => ∃ g M, e = .returned (.tuple #[mat (some ⟨g, 0, none⟩) N N 0 R C D, .int .i64 0]) ∧ SclS zr zc lm o R C L D N M ∧ Own w' g M ∧ Below W.heap.size W w' from by
    refine (eqscale_ok Am nm cm lm o R C L D N A c zr B d zc W (hAm.below hb) hWm hlm hnc (by omega) hoI hLI (by omega) (by omega) hL1 hRL hmr hN hD hA1 hzrl hB1 hzcl).mono ?_
    rintro e w' ⟨g, M, h1, h2, h3, _, h4⟩
    exact ⟨g, M, h1, h2, h3, h4⟩)
  have HGx := Lib.hid (fun (g : Nat) W => rgood_any (some ⟨g, 0, none⟩) N N 0 R C D W (by omega) (by unfold I64; omega) (by unfold I64; omega) (by unfold I64; omega) (by unfold I64; omega))
  have hgx : matB N 0 (R : Int) (C : Int) (D : Int) = true := mat_right (o := 0) (by omega) (by omega) (mat_room hN hD)
  rw [hgx] at HGx
  have HOx := Lib.hid (fun (g : Nat) (M : List Nat) W (hM : SclS zr zc lm o R C L D N M) (hO : Own W g M) => show Calls Try.prog 10 #[mat (some ⟨g, 0, none⟩) N N 0 R C D] W fun e w' => ∃ g T, e = .returned (tbl R C g N N) ∧ (T.length = N ∧ ∀ i, i < R → ∀ j, j < C → T.getD (i * C + j) 0 = V i j) ∧ Row w' (some ⟨g, 0, none⟩) (f64s T) ∧ Below W.heap.size W w' from by
    refine (rof_any (some ⟨g, 0, none⟩) N N M 0 R C D N W hO.row hM.1 (by omega) hN (by omega) (by omega) (by omega) (mat_room hN hD)).mono ?_
    rintro e w' ⟨g', T, e1, e2, e3, _, e4⟩
    exact ⟨g', T, e1, ⟨by rw [e2.1, hN], fun i hi j hj => by rw [← hV]; exact ShfS.at_ hN hM e2 hi hj⟩, e3, e4⟩)
  have HAt := Lib.hid (fun (g : Nat) (T : List Nat) W (i j : Nat) (hi : i < R) (hj : j < C) (hT : T.length = N ∧ ∀ i, i < R → ∀ j, j < C → T.getD (i * C + j) 0 = V i j) (h : Row W (some ⟨g, 0, none⟩) (f64s T)) => show Calls Try.prog 21 #[.agg #[.int .i64 (R : Int), .int .i64 (C : Int), .slice (some ⟨g, 0, none⟩) N N], .int .i64 (i : Int), .int .i64 (j : Int)] W fun e w' => e = .returned (.float .f64 (V i j)) ∧ Below W.heap.size W w' from by
    rw [← hT.2 i hi j hj]
    exact rat8_any R C g N N T i j W h hT.1 (by omega) (by rw [← hN]; exact tab_lt hi hj))
  have tC : ((C : Int) != (C : Int)) = false := by simp
  have tR : ((R : Int) != (R : Int)) = false := by simp
  have HRC := Lib.hid (And.intro hR hC)
  clear hAm hWm hlm hnc hn hoI hLI hR hC hL1 hRL hmr hG hN hNb hfin hfx hD hgx hzr hzc hzrl hzcl hV hVo hK
  unfold mat tbl at *
  go_enter Try.func5, Try.ntmps5
  have Hm0 := Lib.hid (Blk.new w 24 #[.slice Am nm cm, .int .i64 (o : Int), .int .i64 (R : Int), .int .i64 (C : Int), .int .i64 (L : Int)])
  have HB0 := Lib.hid ((Below.refl w.heap.size w).alloc (Nat.le_refl _) (.cells #[.slice Am nm cm, .int .i64 (o : Int), .int .i64 (R : Int), .int .i64 (C : Int), .int .i64 (L : Int)] 24))
  obtain ⟨m0, m1, m2, m3, m4⟩ := cells5 Hm0.out
  go_wp2_with fail
  refine (awake15_any _).mono ?_
  rintro e w1 ⟨rfl, hb⟩
  have Hm1 := Lib.hid (Hm0.out.nxt hb)
  have HB1 := Lib.hid (below_nx HB0.out hb)
  clear hb
  clear m0 m1 m2 m3 m4
  obtain ⟨m0, m1, m2, m3, m4⟩ := cells5 Hm1.out
  go_wp2_with fail
  refine (HGr.out _).mono ?_
  rintro e w2 ⟨rfl, hb⟩
  have Hm2 := Lib.hid (Hm1.out.nxt hb)
  have HB2 := Lib.hid (below_nx HB1.out hb)
  clear hb
  clear m0 m1 m2 m3 m4
  obtain ⟨m0, m1, m2, m3, m4⟩ := cells5 Hm2.out
  go_wp2_with fail
  refine (HFc.out _ HB2.out).mono ?_
  rintro e wg ⟨A1, c1, A2, c2, rfl, h1, h2, hb⟩
  have Hm3 := Lib.hid (Hm2.out.nxt hb)
  have HB3 := Lib.hid (below_nx HB2.out hb)
  clear hb
  clear m0 m1 m2 m3 m4
  obtain ⟨m0, m1, m2, m3, m4⟩ := cells5 Hm3.out
  have Hra3 := Lib.hid h1
  have Hrb3 := Lib.hid h2
  clear h1 h2
  go_wp2_with fail
  refine (HSc.out A1 c1 A2 c2 _ HB3.out Hra3.out Hrb3.out).mono ?_
  rintro e w5 ⟨gx, Mx, rfl, hMx, hOx, hb⟩
  have HMx := Lib.hid hMx
  have Hm4 := Lib.hid (Hm3.out.nxt hb)
  have Hra4 := Lib.hid (Hra3.out.below hb)
  have Hrb4 := Lib.hid (Hrb3.out.below hb)
  have HB4 := Lib.hid (below_nx HB3.out hb)
  clear hb
  clear m0 m1 m2 m3 m4
  obtain ⟨m0, m1, m2, m3, m4⟩ := cells5 Hm4.out
  have Hu4 := Lib.hid hOx
  clear hMx hOx
  have Hm5 := Lib.hid (Hm4.out.alloc (.cells #[.slice (some ⟨gx, 0, none⟩) N N, .int .i64 0, .int .i64 (R : Int), .int .i64 (C : Int), .int .i64 (D : Int)] 24))
  have Hu5 := Lib.hid (Hu4.out.nxt (below_one (o := (.cells #[.slice (some ⟨gx, 0, none⟩) N N, .int .i64 0, .int .i64 (R : Int), .int .i64 (C : Int), .int .i64 (D : Int)] 24))))
  have Hra5 := Lib.hid (Hra4.out.below (below_one (o := (.cells #[.slice (some ⟨gx, 0, none⟩) N N, .int .i64 0, .int .i64 (R : Int), .int .i64 (C : Int), .int .i64 (D : Int)] 24))))
  have Hrb5 := Lib.hid (Hrb4.out.below (below_one (o := (.cells #[.slice (some ⟨gx, 0, none⟩) N N, .int .i64 0, .int .i64 (R : Int), .int .i64 (C : Int), .int .i64 (D : Int)] 24))))
  have Hx5 := Lib.hid (Blk.new w5 24 #[.slice (some ⟨gx, 0, none⟩) N N, .int .i64 0, .int .i64 (R : Int), .int .i64 (C : Int), .int .i64 (D : Int)])
  have HB5 := Lib.hid (below_al HB4.out (o := (.cells #[.slice (some ⟨gx, 0, none⟩) N N, .int .i64 0, .int .i64 (R : Int), .int .i64 (C : Int), .int .i64 (D : Int)] 24)))
  clear m0 m1 m2 m3 m4
  obtain ⟨m0, m1, m2, m3, m4⟩ := cells5 Hm5.out
  obtain ⟨x0, x1, x2, x3, x4⟩ := cells5 Hx5.out
  go_wp2_with fail
  clear m0 m1 m2 m3 m4 x0 x1 x2 x3 x4
  generalize hq9 : w5.alloc (.cells #[.slice (some ⟨gx, 0, none⟩) N N, .int .i64 0, .int .i64 (R : Int), .int .i64 (C : Int), .int .i64 (D : Int)] 24) = w6 at *
  clear hq9
  generalize w5.heap.size = px at *
  obtain ⟨m0, m1, m2, m3, m4⟩ := cells5 Hm5.out
  obtain ⟨x0, x1, x2, x3, x4⟩ := cells5 Hx5.out
  refine (HGx.out gx _).mono ?_
  rintro e w7 ⟨rfl, hb⟩
  have Hm6 := Lib.hid (Hm5.out.nxt hb)
  have Hx6 := Lib.hid (Hx5.out.nxt hb)
  have Hu6 := Lib.hid (Hu5.out.nxt hb)
  have Hra6 := Lib.hid (Hra5.out.below hb)
  have Hrb6 := Lib.hid (Hrb5.out.below hb)
  have HB6 := Lib.hid (below_nx HB5.out hb)
  clear hb
  clear m0 m1 m2 m3 m4 x0 x1 x2 x3 x4
  obtain ⟨m0, m1, m2, m3, m4⟩ := cells5 Hm6.out
  obtain ⟨x0, x1, x2, x3, x4⟩ := cells5 Hx6.out
  go_wp2_with fail
  refine (HOx.out gx Mx _ HMx.out Hu6.out).mono ?_
  rintro e wf ⟨gT, T, rfl, hT, hRw, hb⟩
  have HTt := Lib.hid hT
  have Hm7 := Lib.hid (Hm6.out.nxt hb)
  have Hx7 := Lib.hid (Hx6.out.nxt hb)
  have Hu7 := Lib.hid (Hu6.out.nxt hb)
  have Hra7 := Lib.hid (Hra6.out.below hb)
  have Hrb7 := Lib.hid (Hrb6.out.below hb)
  have HB7 := Lib.hid (below_nx HB6.out hb)
  clear hb
  clear m0 m1 m2 m3 m4 x0 x1 x2 x3 x4
  obtain ⟨m0, m1, m2, m3, m4⟩ := cells5 Hm7.out
  obtain ⟨x0, x1, x2, x3, x4⟩ := cells5 Hx7.out
  have HT7 := Lib.hid hRw
  clear hT hRw
  have Hm8 := Lib.hid (Hm7.out.alloc (.cells #[.int .i64 (R : Int), .int .i64 (C : Int), .slice (some ⟨gT, 0, none⟩) N N] 32))
  have Hx8 := Lib.hid (Hx7.out.alloc (.cells #[.int .i64 (R : Int), .int .i64 (C : Int), .slice (some ⟨gT, 0, none⟩) N N] 32))
  have Hu8 := Lib.hid (Hu7.out.nxt (below_one (o := (.cells #[.int .i64 (R : Int), .int .i64 (C : Int), .slice (some ⟨gT, 0, none⟩) N N] 32))))
  have Hra8 := Lib.hid (Hra7.out.below (below_one (o := (.cells #[.int .i64 (R : Int), .int .i64 (C : Int), .slice (some ⟨gT, 0, none⟩) N N] 32))))
  have Hrb8 := Lib.hid (Hrb7.out.below (below_one (o := (.cells #[.int .i64 (R : Int), .int .i64 (C : Int), .slice (some ⟨gT, 0, none⟩) N N] 32))))
  have HT8 := Lib.hid (HT7.out.below (below_one (o := (.cells #[.int .i64 (R : Int), .int .i64 (C : Int), .slice (some ⟨gT, 0, none⟩) N N] 32))))
  have Ht8 := Lib.hid (Blk.new wf 32 #[.int .i64 (R : Int), .int .i64 (C : Int), .slice (some ⟨gT, 0, none⟩) N N])
  have HB8 := Lib.hid (below_al HB7.out (o := (.cells #[.int .i64 (R : Int), .int .i64 (C : Int), .slice (some ⟨gT, 0, none⟩) N N] 32)))
  clear m0 m1 m2 m3 m4 x0 x1 x2 x3 x4
  obtain ⟨m0, m1, m2, m3, m4⟩ := cells5 Hm8.out
  obtain ⟨x0, x1, x2, x3, x4⟩ := cells5 Hx8.out
  obtain ⟨t0, t1, t2⟩ := cells3v Ht8.out
  go_wp2_with fail
  clear m0 m1 m2 m3 m4 x0 x1 x2 x3 x4 t0 t1 t2
  generalize hq9 : wf.alloc (.cells #[.int .i64 (R : Int), .int .i64 (C : Int), .slice (some ⟨gT, 0, none⟩) N N] 32) = wx at *
  clear hq9
  generalize wf.heap.size = pt at *
  obtain ⟨m0, m1, m2, m3, m4⟩ := cells5 Hm8.out
  obtain ⟨x0, x1, x2, x3, x4⟩ := cells5 Hx8.out
  obtain ⟨t0, t1, t2⟩ := cells3v Ht8.out
  clear m0 m1 m2 m3 m4 x0 x1 x2 x3 x4 t0 t1 t2
  go_loopw [10] (fun a wr => ∃ j : Nat, j ≤ C ∧ a = .int .i64 j ∧ Below wx.heap.size wx wr) (fun a _ => C - (intOf a).toNat)
  case atStart => exact ⟨0, Nat.zero_le _, rfl, Below.refl _ _⟩
  case round =>
    obtain ⟨j, hj, rfl, hbl⟩ := hrel
    have HBl := Lib.hid hbl
    clear hbl
    generalize wr = wa at *
    obtain ⟨t0, t1, t2⟩ := cells3v (Ht8.out.nxt HBl.out)
    by_cases hlt : j < C
    · have hqc : (j : Int) < (C : Int) := by omega
      have hq1 : j + 1 ≤ 1048576 := by have := HRC.out; omega
      by_cases hR0 : 0 < R
      · have hRc : (0 : Int) < (R : Int) := by omega
        go_wp2_with fail
        clear t0 t1 t2
        go_loopw [11, 12] (fun m a wr => ∃ (q : Nat) (fl : Bool), q ≤ R ∧ m = .bool fl ∧ a = .int .i64 q ∧ Hid (anyB (fun i => geB (V i j)) q = fl) ∧ Below wa.heap.size wa wr) (fun _ a _ => R - (intOf a).toNat)
        case atStart => exact ⟨0, false, Nat.zero_le _, rfl, rfl, Lib.hid rfl, Below.refl _ _⟩
        case round =>
          obtain ⟨q, fl, hq, rfl, rfl, HF, hbk⟩ := hrel
          have HBk := Lib.hid hbk
          clear hbk
          have HB4 := Lib.hid (below_nx HBl.out HBk.out)
          obtain ⟨t0, t1, t2⟩ := cells3v (Ht8.out.nxt HB4.out)
          by_cases hql : q < R
          · have hqc2 : (q : Int) < (R : Int) := by omega
            have hq2 : q + 1 ≤ 1048576 := by have := HRC.out; omega
            have HAtq := Lib.hid (HAt.out gT T wr q j hql hlt HTt.out (HT8.out.below HB4.out))
            have hvl := HVl.out q j
            have hv2 := HLt.out q hql j hlt
            have hlss := lss_two hv2
            obtain ⟨p1, p2, hp1, hp2, hp3⟩ := geq_one hv2
            have HNx := Lib.hid (anyB_next (f := fun i => geB (V i j)) HF.out hp3.symm)
            obtain ⟨v, hv⟩ : ∃ v, V q j = v := ⟨_, rfl⟩
            rw [hv] at HAtq hvl hlss hp1 hp2
            have HAb := Lib.hid (fun W => rabs_any v W hvl)
            obtain ⟨av, hav⟩ : ∃ av, absW v = av := ⟨_, rfl⟩
            rw [hav] at HAb hlss hp1 hp2
            clear hvl hv2 hp3 hv hav
            go_wp2_with fail
            refine HAtq.out.mono ?_
            rintro e w8 ⟨rfl, hb⟩
            have HB5 := Lib.hid (below_nx HBk.out hb)
            clear hb t0 t1 t2
            go_wp2_with fail
            refine (HAb.out _).mono ?_
            rintro e w9 ⟨rfl, rfl⟩
            cases fl with
            | true =>
              go_wp2_with fail
              go_roundw
              case rel => exact ⟨q + 1, true, by omega, rfl, by go_num, Lib.hid HNx.out, HB5.out⟩
              case measure => simp [intOf]; omega
            | false =>
              cases p1 with
              | true =>
                go_wp2_with fail
                go_roundw
                case rel => exact ⟨q + 1, true, by omega, rfl, by go_num, Lib.hid HNx.out, HB5.out⟩
                case measure => simp [intOf]; omega
              | false =>
                cases p2 with
                | true =>
                  go_wp2_with fail
                  go_roundw
                  case rel => exact ⟨q + 1, true, by omega, rfl, by go_num, Lib.hid HNx.out, HB5.out⟩
                  case measure => simp [intOf]; omega
                | false =>
                  go_wp2_with fail
                  go_roundw
                  case rel => exact ⟨q + 1, false, by omega, rfl, by go_num, Lib.hid HNx.out, HB5.out⟩
                  case measure => simp [intOf]; omega
          · obtain rfl : R = q := by omega
            have hqc2 : ¬ (R : Int) < (R : Int) := by omega
            obtain rfl : fl = true := HF.out.symm.trans (HGe.out j hlt)
            have HBa := Lib.hid HB4.out
            go_wp2_with fail
            go_roundw
            case rel => exact ⟨j + 1, by omega, by go_num, HBa.out⟩
            case measure => simp [intOf]; omega
      · have hRc : ¬ (0 : Int) < (R : Int) := by omega
        go_wp2_with fail
        refine (awake15_any _).mono ?_
        rintro e wz ⟨rfl, hb⟩
        have HBz := Lib.hid (below_nx (below_nx HB8.out HBl.out) hb)
        clear hb
        go_wp2_with fail
        go_ret
        exact ⟨rfl, HBz.out⟩
    · obtain rfl : C = j := by omega
      have hqc : ¬ (C : Int) < (C : Int) := by omega
      go_wp2_with fail
      refine (awake15_any _).mono ?_
      rintro e wz ⟨rfl, hb⟩
      have HBz := Lib.hid (below_nx (below_nx HB8.out HBl.out) hb)
      clear hb
      go_wp2_with fail
      go_ret
      exact ⟨rfl, HBz.out⟩

theorem equilLike_walk (Am : Option Addr) (cm : Nat) (lm : List Nat) (mo mr mk ml : Int) (w : World) (hAm : Row w Am (f64s lm)) (hWm : Wds lm) (hnc : lm.length ≤ cm) (hmo : I64 mo) (hmr : I64 mr) (hmk : I64 mk) (hml : I64 ml) :
    Calls Try.prog 5 #[mat Am lm.length cm mo mr mk ml] w fun e w' => e = .returned (.bool true) ∧ Below w.heap.size w w' := by
  cases hG : greatB lm.length mr mk
  · have hn : lm.length ≤ 1000 ∧ mr ≤ 20 ∧ mk ≤ 20 := by have h := hG; unfold greatB at h; simp at h; omega
    cases h : matB lm.length mo mr mk ml
    · exact equilLike_err Am _ cm mo mr mk ml w hG 0 1 (by decide) (fun W hb => eqfactors_bad Am _ cm mo mr mk ml W (by omega) hmo hmr hmk hml h)
    · obtain ⟨o, R, C, L, rfl, rfl, rfl, rfl, hL1, hRL, hmr2⟩ := mat_nat h
      cases hf : finsB lm o R C L
      · exact equilLike_err Am _ cm o R C L w hG 0 8 (by decide) (fun W hb => eqfactors_nan Am _ cm lm o R C L W (hAm.below hb) hWm rfl hnc (by omega) hmo hml (by omega) (by omega) hL1 hRL hmr2 hf)
      · by_cases hk : fAt (tX lm o L) R C = 0
        · exact equilLike_ok Am _ cm lm o R C L w hAm hWm rfl hnc hn.1 hmo hml (by omega) (by omega) hL1 hRL hmr2 hf hk
        · refine equilLike_err Am _ cm o R C L w hG (fAt (tX lm o L) R C : Nat) 4 (by decide) (fun W hb => ?_)
          refine (eqfactors_any Am _ cm lm o R C L W (hAm.below hb) hWm rfl hnc (by omega) hmo hml (by omega) (by omega) hL1 hRL hmr2 hf).mono ?_
          rintro e w' (⟨A, c, B, d, h0, _⟩ | ⟨k, h1, h2, rfl, h3⟩)
          · exact absurd h0 hk
          · exact ⟨by rw [h1], h3⟩
  · exact equilLike_great Am _ cm mo mr mk ml w hG
end Go.Proofs.Ytelpdbkkefpjhaa
