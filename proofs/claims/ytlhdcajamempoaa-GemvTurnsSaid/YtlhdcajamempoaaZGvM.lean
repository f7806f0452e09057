/-
Gemv: when vectors and matrices meet, by the program and by the document; the document's example. Conditions: as each says.
-/
import Derived.Test.YtlhdcajamempoaaGw
import Derived.Test.YtlhdcajamempoaaGh
set_option linter.unusedVariables false
set_option linter.unusedSimpArgs false
set_option linter.unnecessarySimpa false
namespace Go.Proofs.Ytlhdcajamempoaa
open Go.RowKit
attribute [local go_sem ↓] Go.wp_at_zero Go.wp_at_succ

theorem cast_off {o K i : Nat} (h : K ≠ 0) : (o : Int) + ((K : Int) - 1) * (i : Int) = ((o + (K - 1) * i : Nat) : Int) := by
  have e : (K : Int) - 1 = ((K - 1 : Nat) : Int) := by omega
  rw [e]
  simp
theorem last_mat {o R C L : Nat} (hR : R ≠ 0) (hC : C ≠ 0) : lastI (o : Int) (R : Int) (C : Int) (L : Int) = ((o + (C - 1) * L + (R - 1) : Nat) : Int) := by
  unfold lastI
  have e : (R : Int) - 1 = ((R - 1 : Nat) : Int) := by omega
  have := cast_off (o := o) (K := C) (i := L) hC
  rw [e]
  generalize ((C : Int) - 1) * (L : Int) = p at *
  generalize (C - 1) * L = q at *
  omega
theorem row_right {n o K i : Nat} (hi : 1 ≤ i) (hr : K = 0 ∨ o + (K - 1) * i < n) : matB n (o : Int) 1 (K : Int) (i : Int) = true := by
  have := mat_right (n := n) (o := o) (R := 1) (C := K) (L := i) hi hi (by
    rcases hr with h | h
    · exact .inr (.inl h)
    · exact .inr (.inr (by simpa using h)))
  exact this
/-- What meets, by both. -/
theorem met_m {n o K i nm om R C L : Nat} (hi : 1 ≤ i) (hr : K = 0 ∨ o + (K - 1) * i < n) (hL1 : 1 ≤ L) (hRL : R ≤ L) (hmr : R = 0 ∨ C = 0 ∨ om + (C - 1) * L + (R - 1) < nm) :
    (bothB n (o : Int) 1 (K : Int) (i : Int) nm (om : Int) (R : Int) (C : Int) (L : Int) && (decide ((o : Int) ≤ lastI (om : Int) (R : Int) (C : Int) (L : Int)) && decide ((om : Int) ≤ lastI (o : Int) 1 (K : Int) (i : Int)))) = spB (vsA o K) (vsB o K i) (msA om R C) (msB om R C L) := by
  unfold bothB spB vsA vsB msA msB
  rw [row_right hi hr, mat_right hL1 hRL hmr]
  by_cases hK : K = 0
  · simp [hK]
  · by_cases hE : R = 0 ∨ C = 0
    · rw [if_neg hK, if_neg hK, if_pos hE, if_pos hE]
      have : (!((R : Int) == 0 || (C : Int) == 0)) = false := by
        rcases hE with h | h <;> simp [h]
      rw [this]
      simp
    · have hR : R ≠ 0 := fun h => hE (.inl h)
      have hC : C ≠ 0 := fun h => hE (.inr h)
      have e1 := last_mat (o := om) (R := R) (C := C) (L := L) hR hC
      have e2 := last_mat (o := o) (R := 1) (C := K) (L := i) (by omega) hK
      rw [Nat.sub_self, Nat.add_zero] at e2
      rw [if_neg hK, if_neg hK, if_neg hE, if_neg hE, e1, show lastI (o : Int) 1 (K : Int) (i : Int) = _ from e2]
      have t1 : (!((1 : Int) == 0 || (K : Int) == 0)) = true := by simp [hK]
      have t2 : (!((R : Int) == 0 || (C : Int) == 0)) = true := by simp [hR, hC]
      rw [t1, t2]
      generalize (C - 1) * L = p
      generalize (K - 1) * i = q
      have d1 : decide ((o : Int) ≤ ((o + q : Nat) : Int)) = true := decide_eq_true (by omega)
      have d2 : decide ((om : Int) ≤ ((om + p + (R - 1) : Nat) : Int)) = true := decide_eq_true (by omega)
      rw [d1, d2]
      simp
theorem met_x {n o K i nx ox Kx ix : Nat} (hi : 1 ≤ i) (hr : K = 0 ∨ o + (K - 1) * i < n) (hix : 1 ≤ ix) (hxr : Kx = 0 ∨ ox + (Kx - 1) * ix < nx) :
    (bothB n (o : Int) 1 (K : Int) (i : Int) nx (ox : Int) 1 (Kx : Int) (ix : Int) && (decide ((o : Int) ≤ lastI (ox : Int) 1 (Kx : Int) (ix : Int)) && decide ((ox : Int) ≤ lastI (o : Int) 1 (K : Int) (i : Int)))) = spB (vsA o K) (vsB o K i) (vsA ox Kx) (vsB ox Kx ix) := by
  have := met_m (n := n) (o := o) (K := K) (i := i) (nm := nx) (om := ox) (R := 1) (C := Kx) (L := ix) hi hr hix hix (by
    rcases hxr with h | h
    · exact .inr (.inl h)
    · exact .inr (.inr (by simpa using h)))
  have e1 : msA ox 1 Kx = vsA ox Kx := by unfold msA vsA; by_cases h : Kx = 0 <;> simp [h]
  have e2 : msB ox 1 Kx ix = vsB ox Kx ix := by unfold msB vsB; by_cases h : Kx = 0 <;> simp [h]
  rw [e1, e2] at this
  exact this
theorem sp_far_m {o K i om R C L : Nat} (h : spB (vsA o K) (vsB o K i) (msA om R C) (msB om R C L) = false) : ∀ a, a < R → ∀ b, b < C → ∀ q, q < K → om + b * L + a ≠ o + q * i := by
  intro a ha b hb q hq e
  have hb2 : b * L ≤ (C - 1) * L := Nat.mul_le_mul_right L (by omega)
  have hq2 : q * i ≤ (K - 1) * i := Nat.mul_le_mul_right i (by omega)
  unfold spB vsA vsB msA msB at h
  rw [if_neg (by omega), if_neg (by omega), if_neg (by omega), if_neg (by omega)] at h
  generalize b * L = p at *
  generalize (C - 1) * L = p' at *
  generalize q * i = t at *
  generalize (K - 1) * i = t' at *
  have d1 : decide ((o : Int) ≤ ((o + t' : Nat) : Int)) = true := decide_eq_true (by omega)
  have d2 : decide ((om : Int) ≤ ((om + p' + (R - 1) : Nat) : Int)) = true := decide_eq_true (by omega)
  have d3 : decide ((o : Int) ≤ ((om + p' + (R - 1) : Nat) : Int)) = true := decide_eq_true (by omega)
  have d4 : decide ((om : Int) ≤ ((o + t' : Nat) : Int)) = true := decide_eq_true (by omega)
  rw [d1, d2, d3, d4] at h
  cases h
theorem sp_far_x {o K i ox Kx ix : Nat} (h : spB (vsA o K) (vsB o K i) (vsA ox Kx) (vsB ox Kx ix) = false) : ∀ b, b < Kx → ∀ q, q < K → ox + b * ix ≠ o + q * i := by
  intro b hb q hq
  have e1 : msA ox 1 Kx = vsA ox Kx := by unfold msA vsA; by_cases h : Kx = 0 <;> simp [h]
  have e2 : msB ox 1 Kx ix = vsB ox Kx ix := by unfold msB vsB; by_cases h : Kx = 0 <;> simp [h]
  rw [← e1, ← e2] at h
  have := sp_far_m h 0 (by omega) b hb q hq
  simpa using this
set_option maxHeartbeats 1000000 in
theorem awake7_any (w : World) : Calls Try.prog 7 #[] w fun e w' => e = .returned (.bool true) ∧ Below w.heap.size w w' := by
  have z0 : I64 0 := by unfold I64; omega
  have z1 : I64 1 := by unfold I64; omega
  have z2 : I64 2 := by unfold I64; omega
  have HAb := Lib.hid (fun W => show Calls Try.prog 42 #[.agg #[.slice none 0 0, .int .i64 0, .int .i64 0, .int .i64 0, .int .i64 0], .agg #[.slice none 0 0, .int .i64 0, .int .i64 0, .int .i64 0], .agg #[.slice none 0 0, .int .i64 0, .int .i64 0, .int .i64 0]] W fun e w' => e = .returned (.int .i64 1) ∧ Below W.heap.size W w' from
    gvabs_err none 0 0 0 0 0 0 none 0 0 0 0 0 none 0 0 0 0 0 1 W (by omega) (fun W' _ => gvfits_bad none 0 0 0 0 0 0 none 0 0 0 0 0 none 0 0 0 0 0 0 0 W' (by omega) z0 z0 z0 z0 (by omega) z0 z0 z0 (by omega) z0 z0 z0 (by decide)))
  have HDn := Lib.hid (fun (g : Nat) W (hO : Row W (some ⟨g, 0, none⟩) (f64s ex1234)) => show Calls Try.prog 8 #[.int .i64 2, .int .i64 2, .slice (some ⟨g, 0, none⟩) 4 4] W fun e w' => ∃ g, e = .returned (.agg #[.slice (some ⟨g, 0, none⟩) 4 4, .int .i64 0, .int .i64 2, .int .i64 2, .int .i64 2]) ∧ Own w' g exD ∧ W.heap.size ≤ g ∧ Below W.heap.size W w' from by
    refine (dense_blk (some ⟨g, 0, none⟩) 4 ex1234 2 2 W (by omega) (by omega) hO (by decide) (by decide)).mono ?_
    rintro e w' ⟨g', M, rfl, hd, hB, hg, hb⟩
    obtain rfl := ex_dense hd
    exact ⟨g', rfl, own_blk hB, hg, hb⟩)
  have HMu := Lib.hid (fun (g gm gx : Nat) W (hO : Own W g ex99) (hM : Own W gm exD) (hX : Own W gx ex56v) (h1 : g ≠ gm) (h2 : g ≠ gx) => show Calls Try.prog 11 #[.float .f64 4607182418800017408, .agg #[.slice (some ⟨gm, 0, none⟩) 4 4, .int .i64 0, .int .i64 2, .int .i64 2, .int .i64 2], .agg #[.slice (some ⟨gx, 0, none⟩) 2 2, .int .i64 0, .int .i64 2, .int .i64 1], .float .f64 0, .agg #[.slice (some ⟨g, 0, none⟩) 2 2, .int .i64 0, .int .i64 2, .int .i64 1]] W fun e w' => e = .returned (.int .i64 0) ∧ Own w' g ex1739 ∧ Chg [g] W w' from by
    refine (gvmul_ok 4607182418800017408 0 g 2 2 ex99 0 2 1 gm 4 4 exD 0 2 2 gx 2 2 ex56v 0 1 W hO rfl (by omega) (by omega) (by omega) hM rfl (by omega) (by omega) (by omega) (by omega) exD_wds hX rfl (by omega) (by omega) (by omega) ex56v_wds z0 z2 z0 z1 (by omega) (by omega) (fun e => (h1 e.symm).elim) (fun e => (h2 e.symm).elim) (fun W' hb => ?_)).mono ?_
    · refine gvfits_ok (some ⟨gm, 0, none⟩) 4 4 0 2 2 2 (some ⟨gx, 0, none⟩) 2 2 0 2 1 (some ⟨g, 0, none⟩) 2 2 0 2 1 W' (by omega) z0 z2 z2 z2 (by omega) z0 z2 z1 (by omega) z0 z2 z1 (by decide) (fun W2 hb2 => ?_) (fun W2 hb2 => ?_)
      · have := meet_own g gm 2 4 ex99 exD 0 1 2 1 0 2 2 2 W2 (hO.nxt (below_nx hb hb2)) (hM.nxt (below_nx hb hb2)) (by decide) z0 z1 z2 z1 (by decide) z0 z2 z2 z2
        rw [show decide (g = gm) = false from decide_eq_false h1, Bool.and_false, Bool.false_and] at this
        exact this
      · have := meet_own g gx 2 2 ex99 ex56v 0 1 2 1 0 1 2 1 W2 (hO.nxt (below_nx hb hb2)) (hX.nxt (below_nx hb hb2)) (by decide) z0 z1 z2 z1 (by decide) z0 z1 z2 z1
        rw [show decide (g = gx) = false from decide_eq_false h2, Bool.and_false, Bool.false_and] at this
        exact this
    · rintro e w' ⟨rfl, m, k1, k2, k3, k4⟩
      rw [ex_mul k1 k2] at k3
      exact ⟨rfl, k3, k4⟩)
  have HAl := Lib.hid (fun (A B : Option Addr) (W : World) (h : Row W A (f64s ex1739)) (h' : Row W B (f64s ex1739)) => show Calls Try.prog 26 #[.slice A 2 2, .slice B 2 2] W fun e w' => e = .returned (.bool true) ∧ Below W.heap.size W w' from
    rall_any A B 2 2 ex1739 ex1739 W ex1739_wds ex1739_wds h h' (by decide) (Alike.refl _))
  have HB0 := Lib.hid ((Below.refl w.heap.size w))
  clear z0 z1 z2
  go_enter Try.func7, Try.ntmps7
  go_wp2_with fail
  refine (HAb.out _).mono ?_
  rintro e w1 ⟨rfl, hb⟩
  have HB1 := Lib.hid hb
  clear hb
  go_wp2_with fail
  have HO := Lib.hid (own_blk ((Blk.new w1 28 (f64s ex99).toArray).alloc (.cells (f64s ex1234).toArray 28)))
  have HR := Lib.hid (own_blk (Blk.new_ (w1.alloc (.cells (f64s ex99).toArray 28)) 28 (f64s ex1234).toArray (w1.heap.size + 1) (by simp))).row
  have HB2 := Lib.hid (below_al (below_al HB1.out (o := (.cells (f64s ex99).toArray 28))) (o := (.cells (f64s ex1234).toArray 28)))
  refine (HDn.out _ _ HR.out).mono ?_
  rintro e w2 ⟨gm, rfl, hM, hg, hb⟩
  have HO2 := Lib.hid (HO.out.nxt hb)
  have HM2 := Lib.hid hM
  have HB3 := Lib.hid (below_nx HB2.out hb)
  have hgm : w1.heap.size < gm := by
    have h1 : w1.heap.size + 1 + 1 ≤ gm := by simpa using hg
    omega
  have hgw : gm < w2.heap.size := hM.lt
  clear hb hg hM
  go_wp2_with fail
  have HO3 := Lib.hid (HO2.out.nxt (below_one (o := (.cells (f64s ex56v).toArray 28))))
  have HM3 := Lib.hid (HM2.out.nxt (below_one (o := (.cells (f64s ex56v).toArray 28))))
  have HX3 := Lib.hid (own_blk (Blk.new w2 28 (f64s ex56v).toArray))
  have HB4 := Lib.hid (below_al HB3.out (o := (.cells (f64s ex56v).toArray 28)))
  refine (HMu.out _ _ _ _ HO3.out HM3.out HX3.out (by omega) (by omega)).mono ?_
  rintro e w3 ⟨rfl, ho, hc⟩
  have HO4 := Lib.hid ho
  have HB5 := Lib.hid (hc.below HB4.out HB4.out.size (by intro g hg; simp at hg; subst hg; exact HB1.out.size))
  clear ho hc
  go_wp2_with fail
  have HR1 := Lib.hid (HO4.out.nxt (below_one (o := (.cells (f64s ex1739).toArray 28)))).row
  have HR2 := Lib.hid (own_blk (Blk.new w3 28 (f64s ex1739).toArray)).row
  have HB6 := Lib.hid (below_al HB5.out (o := (.cells (f64s ex1739).toArray 28)))
  refine (HAl.out _ _ _ HR1.out HR2.out).mono ?_
  rintro e w4 ⟨rfl, hb⟩
  have HB7 := Lib.hid (below_nx HB6.out hb)
  clear hb
  go_wp2_with fail
  go_ret
  exact ⟨rfl, HB7.out⟩
end Go.Proofs.Ytlhdcajamempoaa
