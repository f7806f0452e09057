/-
Gemv: when vectors and matrices meet, by the program and by the document; the document's example. Conditions: as each says.
-/
import Derived.Test.YtodoibioedelgaaGx
import Derived.Test.YtodoibioedelgaaGh
import Derived.Test.YtodoibioedelgaaGr
set_option linter.unusedVariables false
set_option linter.unusedSimpArgs false
set_option linter.unnecessarySimpa false
namespace Go.Proofs.Ytodoibioedelgaa
open Go.RowKit
attribute [local go_sem ↓] Go.wp_at_zero Go.wp_at_succ

theorem cast_off {o K i : Nat} (h : K ≠ 0) : (o : Int) + ((K : Int) - 1) * (i : Int) = ((o + (K - 1) * i : Nat) : Int) := by
  have e : (K : Int) - 1 = ((K - 1 : Nat) : Int) := by omega
  rw [e]
  simp
theorem last_mat {o R C L : Nat} (hR : R ≠ 0) (hC : C ≠ 0) : lastI (o : Int) (R : Int) (C : Int) (L : Int) = ((o + (C - 1) * L + (R - 1) : Nat) : Int) := by
  unfold lastI
  have e : (R : Int) - 1 = ((R - 1 : Nat) : Int) := by omega
  have := cast_off (o := o) (K := C) (i := L) hC
  rw [e]
  generalize ((C : Int) - 1) * (L : Int) = p at *
  generalize (C - 1) * L = q at *
  omega
theorem row_right {n o K i : Nat} (hi : 1 ≤ i) (hr : K = 0 ∨ o + (K - 1) * i < n) : matB n (o : Int) 1 (K : Int) (i : Int) = true := by
  have := mat_right (n := n) (o := o) (R := 1) (C := K) (L := i) hi hi (by
    rcases hr with h | h
    · exact .inr (.inl h)
    · exact .inr (.inr (by simpa using h)))
  exact this
/-- What meets, by both. -/
theorem met_m {n o K i nm om R C L : Nat} (hi : 1 ≤ i) (hr : K = 0 ∨ o + (K - 1) * i < n) (hL1 : 1 ≤ L) (hRL : R ≤ L) (hmr : R = 0 ∨ C = 0 ∨ om + (C - 1) * L + (R - 1) < nm) :
    (bothB n (o : Int) 1 (K : Int) (i : Int) nm (om : Int) (R : Int) (C : Int) (L : Int) && (decide ((o : Int) ≤ lastI (om : Int) (R : Int) (C : Int) (L : Int)) && decide ((om : Int) ≤ lastI (o : Int) 1 (K : Int) (i : Int)))) = spB (vsA o K) (vsB o K i) (msA om R C) (msB om R C L) := by
  unfold bothB spB vsA vsB msA msB
  rw [row_right hi hr, mat_right hL1 hRL hmr]
  by_cases hK : K = 0
  · simp [hK]
  · by_cases hE : R = 0 ∨ C = 0
    · rw [if_neg hK, if_neg hK, if_pos hE, if_pos hE]
      have : (!((R : Int) == 0 || (C : Int) == 0)) = false := by
        rcases hE with h | h <;> simp [h]
      rw [this]
      simp
    · have hR : R ≠ 0 := fun h => hE (.inl h)
      have hC : C ≠ 0 := fun h => hE (.inr h)
      have e1 := last_mat (o := om) (R := R) (C := C) (L := L) hR hC
      have e2 := last_mat (o := o) (R := 1) (C := K) (L := i) (by omega) hK
      rw [Nat.sub_self, Nat.add_zero] at e2
      rw [if_neg hK, if_neg hK, if_neg hE, if_neg hE, e1, show lastI (o : Int) 1 (K : Int) (i : Int) = _ from e2]
      have t1 : (!((1 : Int) == 0 || (K : Int) == 0)) = true := by simp [hK]
      have t2 : (!((R : Int) == 0 || (C : Int) == 0)) = true := by simp [hR, hC]
      rw [t1, t2]
      generalize (C - 1) * L = p
      generalize (K - 1) * i = q
      have d1 : decide ((o : Int) ≤ ((o + q : Nat) : Int)) = true := decide_eq_true (by omega)
      have d2 : decide ((om : Int) ≤ ((om + p + (R - 1) : Nat) : Int)) = true := decide_eq_true (by omega)
      rw [d1, d2]
      simp
theorem met_x {n o K i nx ox Kx ix : Nat} (hi : 1 ≤ i) (hr : K = 0 ∨ o + (K - 1) * i < n) (hix : 1 ≤ ix) (hxr : Kx = 0 ∨ ox + (Kx - 1) * ix < nx) :
    (bothB n (o : Int) 1 (K : Int) (i : Int) nx (ox : Int) 1 (Kx : Int) (ix : Int) && (decide ((o : Int) ≤ lastI (ox : Int) 1 (Kx : Int) (ix : Int)) && decide ((ox : Int) ≤ lastI (o : Int) 1 (K : Int) (i : Int)))) = spB (vsA o K) (vsB o K i) (vsA ox Kx) (vsB ox Kx ix) := by
  have := met_m (n := n) (o := o) (K := K) (i := i) (nm := nx) (om := ox) (R := 1) (C := Kx) (L := ix) hi hr hix hix (by
    rcases hxr with h | h
    · exact .inr (.inl h)
    · exact .inr (.inr (by simpa using h)))
  have e1 : msA ox 1 Kx = vsA ox Kx := by unfold msA vsA; by_cases h : Kx = 0 <;> simp [h]
  have e2 : msB ox 1 Kx ix = vsB ox Kx ix := by unfold msB vsB; by_cases h : Kx = 0 <;> simp [h]
  rw [e1, e2] at this
  exact this
theorem sp_far_m {o K i om R C L : Nat} (h : spB (vsA o K) (vsB o K i) (msA om R C) (msB om R C L) = false) : ∀ a, a < R → ∀ b, b < C → ∀ q, q < K → om + b * L + a ≠ o + q * i := by
  intro a ha b hb q hq e
  have hb2 : b * L ≤ (C - 1) * L := Nat.mul_le_mul_right L (by omega)
  have hq2 : q * i ≤ (K - 1) * i := Nat.mul_le_mul_right i (by omega)
  unfold spB vsA vsB msA msB at h
  rw [if_neg (by omega), if_neg (by omega), if_neg (by omega), if_neg (by omega)] at h
  generalize b * L = p at *
  generalize (C - 1) * L = p' at *
  generalize q * i = t at *
  generalize (K - 1) * i = t' at *
  have d1 : decide ((o : Int) ≤ ((o + t' : Nat) : Int)) = true := decide_eq_true (by omega)
  have d2 : decide ((om : Int) ≤ ((om + p' + (R - 1) : Nat) : Int)) = true := decide_eq_true (by omega)
  have d3 : decide ((o : Int) ≤ ((om + p' + (R - 1) : Nat) : Int)) = true := decide_eq_true (by omega)
  have d4 : decide ((om : Int) ≤ ((o + t' : Nat) : Int)) = true := decide_eq_true (by omega)
  rw [d1, d2, d3, d4] at h
  cases h
theorem sp_far_x {o K i ox Kx ix : Nat} (h : spB (vsA o K) (vsB o K i) (vsA ox Kx) (vsB ox Kx ix) = false) : ∀ b, b < Kx → ∀ q, q < K → ox + b * ix ≠ o + q * i := by
  intro b hb q hq
  have e1 : msA ox 1 Kx = vsA ox Kx := by unfold msA vsA; by_cases h : Kx = 0 <;> simp [h]
  have e2 : msB ox 1 Kx ix = vsB ox Kx ix := by unfold msB vsB; by_cases h : Kx = 0 <;> simp [h]
  rw [← e1, ← e2] at h
  have := sp_far_m h 0 (by omega) b hb q hq
  simpa using this
set_option maxHeartbeats 1000000 in
theorem awake7_any (w : World) : Calls Try.prog 6 #[] w fun e w' => e = .returned (.bool true) ∧ Below w.heap.size w w' := by
  have z0 : I64 0 := by unfold I64; omega
  have z1 : I64 1 := by unfold I64; omega
  have z2 : I64 2 := by unfold I64; omega
  have HAb := Lib.hid (fun W => show Calls Try.prog 14 #[.agg #[.slice none 0 0, .int .i64 0, .int .i64 0, .int .i64 0, .int .i64 0], .agg #[.slice none 0 0, .int .i64 0, .int .i64 0, .int .i64 0], .agg #[.slice none 0 0, .int .i64 0, .int .i64 0, .int .i64 0]] W fun e w' => e = .returned (.int .i64 1) ∧ Below W.heap.size W w' from
    gvabs_err none 0 0 0 0 0 0 none 0 0 0 0 0 none 0 0 0 0 0 1 W (by omega) (fun W' _ => gvfits_bad none 0 0 0 0 0 0 none 0 0 0 0 0 none 0 0 0 0 0 0 0 W' (by omega) z0 z0 z0 z0 (by omega) z0 z0 z0 (by omega) z0 z0 z0 (by decide)))
  have HDn := Lib.hid (fun (g : Nat) W (hO : Row W (some ⟨g, 0, none⟩) (f64s ex1234)) => show Calls Try.prog 25 #[.int .i64 2, .int .i64 2, .slice (some ⟨g, 0, none⟩) 4 4] W fun e w' => ∃ g, e = .returned (.agg #[.slice (some ⟨g, 0, none⟩) 4 4, .int .i64 0, .int .i64 2, .int .i64 2, .int .i64 2]) ∧ Own w' g exD ∧ W.heap.size ≤ g ∧ Below W.heap.size W w' from by
    refine (dense_blk (some ⟨g, 0, none⟩) 4 ex1234 2 2 W (by omega) (by omega) hO (by decide) (by decide)).mono ?_
    rintro e w' ⟨g', M, rfl, hd, hB, hg, hb⟩
    obtain rfl := ex_dense hd
    exact ⟨g', rfl, own_blk hB, hg, hb⟩)
  have HMu := Lib.hid (fun (g gm gx : Nat) W (hO : Own W g ex99) (hM : Own W gm exD) (hX : Own W gx ex56v) (h1 : g ≠ gm) (h2 : g ≠ gx) => show Calls Try.prog 12 #[.float .f64 4607182418800017408, .agg #[.slice (some ⟨gm, 0, none⟩) 4 4, .int .i64 0, .int .i64 2, .int .i64 2, .int .i64 2], .agg #[.slice (some ⟨gx, 0, none⟩) 2 2, .int .i64 0, .int .i64 2, .int .i64 1], .float .f64 0, .agg #[.slice (some ⟨g, 0, none⟩) 2 2, .int .i64 0, .int .i64 2, .int .i64 1]] W fun e w' => e = .returned (.int .i64 0) ∧ Own w' g ex1739 ∧ Chg [g] W w' from by
    refine (gvmul_ok 4607182418800017408 0 g 2 2 ex99 0 2 1 gm 4 4 exD 0 2 2 gx 2 2 ex56v 0 1 W hO rfl (by omega) (by omega) (by omega) hM rfl (by omega) (by omega) (by omega) (by omega) exD_wds hX rfl (by omega) (by omega) (by omega) ex56v_wds z0 z2 z0 z1 (by omega) (by omega) (fun e => (h1 e.symm).elim) (fun e => (h2 e.symm).elim) (fun W' hb => ?_)).mono ?_
    · refine gvfits_ok (some ⟨gm, 0, none⟩) 4 4 0 2 2 2 (some ⟨gx, 0, none⟩) 2 2 0 2 1 (some ⟨g, 0, none⟩) 2 2 0 2 1 W' (by omega) z0 z2 z2 z2 (by omega) z0 z2 z1 (by omega) z0 z2 z1 (by decide) (fun W2 hb2 => ?_) (fun W2 hb2 => ?_)
      · have := meet_own g gm 2 4 ex99 exD 0 1 2 1 0 2 2 2 W2 (hO.nxt (below_nx hb hb2)) (hM.nxt (below_nx hb hb2)) (by decide) z0 z1 z2 z1 (by decide) z0 z2 z2 z2
        rw [show decide (g = gm) = false from decide_eq_false h1, Bool.and_false, Bool.false_and] at this
        exact this
      · have := meet_own g gx 2 2 ex99 ex56v 0 1 2 1 0 1 2 1 W2 (hO.nxt (below_nx hb hb2)) (hX.nxt (below_nx hb hb2)) (by decide) z0 z1 z2 z1 (by decide) z0 z1 z2 z1
        rw [show decide (g = gx) = false from decide_eq_false h2, Bool.and_false, Bool.false_and] at this
        exact this
    · rintro e w' ⟨rfl, m, k1, k2, k3, k4⟩
      rw [ex_mul k1 k2] at k3
      exact ⟨rfl, k3, k4⟩)
  have HAl := Lib.hid (fun (A B : Option Addr) (W : World) (h : Row W A (f64s ex1739)) (h' : Row W B (f64s ex1739)) => show Calls Try.prog 16 #[.slice A 2 2, .slice B 2 2] W fun e w' => e = .returned (.bool true) ∧ Below W.heap.size W w' from
    rall_any A B 2 2 ex1739 ex1739 W ex1739_wds ex1739_wds h h' (by decide) (Alike.refl _))
  have HB0 := Lib.hid ((Below.refl w.heap.size w))
  clear z0 z1 z2
  go_enter Try.func6, Try.ntmps6
  go_wp2_with fail
  refine (HAb.out _).mono ?_
  rintro e w1 ⟨rfl, hb⟩
  have HB1 := Lib.hid hb
  clear hb
  go_wp2_with fail
  have HO := Lib.hid (own_blk ((Blk.new w1 22 (f64s ex99).toArray).alloc (.cells (f64s ex1234).toArray 22)))
  have HR := Lib.hid (own_blk (Blk.new_ (w1.alloc (.cells (f64s ex99).toArray 22)) 22 (f64s ex1234).toArray (w1.heap.size + 1) (by simp))).row
  have HB2 := Lib.hid (below_al (below_al HB1.out (o := (.cells (f64s ex99).toArray 22))) (o := (.cells (f64s ex1234).toArray 22)))
  refine (HDn.out _ _ HR.out).mono ?_
  rintro e w2 ⟨gm, rfl, hM, hg, hb⟩
  have HO2 := Lib.hid (HO.out.nxt hb)
  have HM2 := Lib.hid hM
  have HB3 := Lib.hid (below_nx HB2.out hb)
  have hgm : w1.heap.size < gm := by
    have h1 : w1.heap.size + 1 + 1 ≤ gm := by simpa using hg
    omega
  have hgw : gm < w2.heap.size := hM.lt
  clear hb hg hM
  go_wp2_with fail
  have HO3 := Lib.hid (HO2.out.nxt (below_one (o := (.cells (f64s ex56v).toArray 22))))
  have HM3 := Lib.hid (HM2.out.nxt (below_one (o := (.cells (f64s ex56v).toArray 22))))
  have HX3 := Lib.hid (own_blk (Blk.new w2 22 (f64s ex56v).toArray))
  have HB4 := Lib.hid (below_al HB3.out (o := (.cells (f64s ex56v).toArray 22)))
  refine (HMu.out _ _ _ _ HO3.out HM3.out HX3.out (by omega) (by omega)).mono ?_
  rintro e w3 ⟨rfl, ho, hc⟩
  have HO4 := Lib.hid ho
  have HB5 := Lib.hid (hc.below HB4.out HB4.out.size (by intro g hg; simp at hg; subst hg; exact HB1.out.size))
  clear ho hc
  go_wp2_with fail
  have HR1 := Lib.hid (HO4.out.nxt (below_one (o := (.cells (f64s ex1739).toArray 22)))).row
  have HR2 := Lib.hid (own_blk (Blk.new w3 22 (f64s ex1739).toArray)).row
  have HB6 := Lib.hid (below_al HB5.out (o := (.cells (f64s ex1739).toArray 22)))
  refine (HAl.out _ _ _ HR1.out HR2.out).mono ?_
  rintro e w4 ⟨rfl, hb⟩
  have HB7 := Lib.hid (below_nx HB6.out hb)
  clear hb
  go_wp2_with fail
  go_ret
  exact ⟨rfl, HB7.out⟩
end Go.Proofs.Ytodoibioedelgaa
/-
GemvTells: what the walk holds of its boxes and lists. Conditions: as each says.
-/
set_option linter.unusedVariables false
set_option linter.unusedSimpArgs false
set_option linter.unnecessarySimpa false
namespace Go.Proofs.Ytodoibioedelgaa
open Go.RowKit
attribute [local go_sem ↓] Go.wp_at_zero Go.wp_at_succ

/-- A vector's numbers have become what was asked, and nothing else has changed. -/
def GvDone (QQ : Nat → Nat → Prop) (l : List Nat) (o i K g : Nat) (w w' : World) : Prop := ∃ m : List Nat, m.length = K ∧ (∀ q, q < K → QQ q (m.getD q 0)) ∧ Own w' g (wrt l o i m K) ∧ Chg [g] w w'
/-- A list in memory of its own, in a matrix, in a vector. -/
def OwM (W : World) (v : Value) (z : Nat) (l : List Nat) (n : Nat) (mo mr mk ml : Int) : Prop := ∃ g c, v = .agg #[.slice (some ⟨g, 0, none⟩) n c, .int .i64 mo, .int .i64 mr, .int .i64 mk, .int .i64 ml] ∧ Own W g l ∧ z ≤ g
def OwV (W : World) (v : Value) (z : Nat) (l : List Nat) (n : Nat) (xo xk xi : Int) : Prop := ∃ g c, v = .agg #[.slice (some ⟨g, 0, none⟩) n c, .int .i64 xo, .int .i64 xk, .int .i64 xi] ∧ Own W g l ∧ z ≤ g
/-- A box in the making. -/
def NbM (W : World) (v : Value) (z : Nat) : Prop := ∃ p x0 x1 x2 x3 x4, v = .pointer (some ⟨p, 0, none⟩) ∧ Blk W p 25 #[x0, x1, x2, x3, x4] ∧ z ≤ p
def NbV (W : World) (v : Value) (z : Nat) : Prop := ∃ p x0 x1 x2 x3, v = .pointer (some ⟨p, 0, none⟩) ∧ Blk W p 27 #[x0, x1, x2, x3] ∧ z ≤ p
/-- A box that is made. -/
def PkM (W : World) (v : Value) (z : Nat) (l : List Nat) (n : Nat) (mo mr mk ml : Int) : Prop := ∃ p g c, v = .pointer (some ⟨p, 0, none⟩) ∧ Blk W p 25 #[.slice (some ⟨g, 0, none⟩) n c, .int .i64 mo, .int .i64 mr, .int .i64 mk, .int .i64 ml] ∧ Own W g l ∧ z ≤ p ∧ z ≤ g
def PkV (W : World) (v : Value) (z : Nat) (l : List Nat) (n : Nat) (xo xk xi : Int) : Prop := ∃ p g c, v = .pointer (some ⟨p, 0, none⟩) ∧ Blk W p 27 #[.slice (some ⟨g, 0, none⟩) n c, .int .i64 xo, .int .i64 xk, .int .i64 xi] ∧ Own W g l ∧ z ≤ p ∧ z ≤ g
def PkZ (W : World) (v : Value) (z : Nat) (A : Option Addr) (n c : Nat) (off k inc : Int) : Prop := ∃ p, v = .pointer (some ⟨p, 0, none⟩) ∧ Blk W p 27 #[.slice A n c, .int .i64 off, .int .i64 k, .int .i64 inc] ∧ z ≤ p
section
variable {W W' : World} {v : Value} {z n c : Nat} {l : List Nat} {mo mr mk ml xo xk xi off k inc : Int} {A : Option Addr}
theorem OwM.below (h : OwM W v z l n mo mr mk ml) (hb : Below W.heap.size W W') : OwM W' v z l n mo mr mk ml := by
  obtain ⟨g, c, h1, h2, h3⟩ := h; exact ⟨g, c, h1, h2.nxt hb, h3⟩
theorem OwV.below (h : OwV W v z l n xo xk xi) (hb : Below W.heap.size W W') : OwV W' v z l n xo xk xi := by
  obtain ⟨g, c, h1, h2, h3⟩ := h; exact ⟨g, c, h1, h2.nxt hb, h3⟩
theorem NbM.below (h : NbM W v z) (hb : Below W.heap.size W W') : NbM W' v z := by
  obtain ⟨p, x0, x1, x2, x3, x4, h1, h2, h3⟩ := h; exact ⟨p, x0, x1, x2, x3, x4, h1, h2.nxt hb, h3⟩
theorem NbV.below (h : NbV W v z) (hb : Below W.heap.size W W') : NbV W' v z := by
  obtain ⟨p, x0, x1, x2, x3, h1, h2, h3⟩ := h; exact ⟨p, x0, x1, x2, x3, h1, h2.nxt hb, h3⟩
theorem PkM.below (h : PkM W v z l n mo mr mk ml) (hb : Below W.heap.size W W') : PkM W' v z l n mo mr mk ml := by
  obtain ⟨p, g, c, h1, h2, h3, h4⟩ := h; exact ⟨p, g, c, h1, h2.nxt hb, h3.nxt hb, h4⟩
theorem PkV.below (h : PkV W v z l n xo xk xi) (hb : Below W.heap.size W W') : PkV W' v z l n xo xk xi := by
  obtain ⟨p, g, c, h1, h2, h3, h4⟩ := h; exact ⟨p, g, c, h1, h2.nxt hb, h3.nxt hb, h4⟩
theorem PkZ.below (h : PkZ W v z A n c off k inc) (hb : Below W.heap.size W W') : PkZ W' v z A n c off k inc := by
  obtain ⟨p, h1, h2, h3⟩ := h; exact ⟨p, h1, h2.nxt hb, h3⟩
theorem own_off {g p : Nat} (h : Own W g l) (hne : g ≠ p) (hb : ∀ k, k ≠ p → W'.heap[k]? = W.heap[k]?) : Own W' g l := by
  obtain ⟨cs, hB, ht⟩ := h
  exact ⟨cs, (hb g hne).trans hB, ht⟩
variable {p : Nat} {t : TypeId} {cs : Array Value}
theorem OwM.far (h : OwM W v z l n mo mr mk ml) (hB : Blk W p t cs) (ht : t ≠ 22) (hb : ∀ k, k ≠ p → W'.heap[k]? = W.heap[k]?) : OwM W' v z l n mo mr mk ml := by
  obtain ⟨g, c, h1, h2, h3⟩ := h; exact ⟨g, c, h1, own_off h2 (own_ne h2 hB ht) hb, h3⟩
theorem OwV.far (h : OwV W v z l n xo xk xi) (hB : Blk W p t cs) (ht : t ≠ 22) (hb : ∀ k, k ≠ p → W'.heap[k]? = W.heap[k]?) : OwV W' v z l n xo xk xi := by
  obtain ⟨g, c, h1, h2, h3⟩ := h; exact ⟨g, c, h1, own_off h2 (own_ne h2 hB ht) hb, h3⟩
theorem NbM.far (h : NbM W v z) (hne : v ≠ .pointer (some ⟨p, 0, none⟩)) (hb : ∀ k, k ≠ p → W'.heap[k]? = W.heap[k]?) : NbM W' v z := by
  obtain ⟨q, x0, x1, x2, x3, x4, h1, h2, h3⟩ := h; exact ⟨q, x0, x1, x2, x3, x4, h1, (hb q (fun e => hne (by rw [h1, e]))).trans h2, h3⟩
theorem NbV.far (h : NbV W v z) (hne : v ≠ .pointer (some ⟨p, 0, none⟩)) (hb : ∀ k, k ≠ p → W'.heap[k]? = W.heap[k]?) : NbV W' v z := by
  obtain ⟨q, x0, x1, x2, x3, h1, h2, h3⟩ := h; exact ⟨q, x0, x1, x2, x3, h1, (hb q (fun e => hne (by rw [h1, e]))).trans h2, h3⟩
theorem NbM.ne_ (h : NbM W v z) (hB : Blk W p t cs) (ht : 25 ≠ t) : v ≠ .pointer (some ⟨p, 0, none⟩) := by
  obtain ⟨q, x0, x1, x2, x3, x4, h1, h2, h3⟩ := h
  intro e
  rw [h1] at e
  injection e with e; injection e with e; injection e with e
  exact blk_ne h2 hB ht e
theorem NbV.ne_ (h : NbV W v z) (hB : Blk W p t cs) (ht : 27 ≠ t) : v ≠ .pointer (some ⟨p, 0, none⟩) := by
  obtain ⟨q, x0, x1, x2, x3, h1, h2, h3⟩ := h
  intro e
  rw [h1] at e
  injection e with e; injection e with e; injection e with e
  exact blk_ne h2 hB ht e
theorem NbV.new_ne (h : NbV W v z) : v ≠ .pointer (some ⟨W.heap.size, 0, none⟩) := by
  obtain ⟨q, x0, x1, x2, x3, h1, h2, h3⟩ := h
  intro e
  rw [h1] at e
  injection e with e; injection e with e; injection e with e
  have := h2.lt
  omega
theorem PkM.far (h : PkM W v z l n mo mr mk ml) (hB : Blk W p t cs) (ht : t ≠ 22) (hne : v ≠ .pointer (some ⟨p, 0, none⟩)) (hb : ∀ k, k ≠ p → W'.heap[k]? = W.heap[k]?) : PkM W' v z l n mo mr mk ml := by
  obtain ⟨q, g, c, h1, h2, h3, h4⟩ := h
  exact ⟨q, g, c, h1, (hb q (fun e => hne (by rw [h1, e]))).trans h2, own_off h3 (own_ne h3 hB ht) hb, h4⟩
theorem PkV.far (h : PkV W v z l n xo xk xi) (hB : Blk W p t cs) (ht : t ≠ 22) (hne : v ≠ .pointer (some ⟨p, 0, none⟩)) (hb : ∀ k, k ≠ p → W'.heap[k]? = W.heap[k]?) : PkV W' v z l n xo xk xi := by
  obtain ⟨q, g, c, h1, h2, h3, h4⟩ := h
  exact ⟨q, g, c, h1, (hb q (fun e => hne (by rw [h1, e]))).trans h2, own_off h3 (own_ne h3 hB ht) hb, h4⟩
theorem PkZ.far (h : PkZ W v z A n c off k inc) (hne : v ≠ .pointer (some ⟨p, 0, none⟩)) (hb : ∀ k, k ≠ p → W'.heap[k]? = W.heap[k]?) : PkZ W' v z A n c off k inc := by
  obtain ⟨q, h1, h2, h3⟩ := h
  exact ⟨q, h1, (hb q (fun e => hne (by rw [h1, e]))).trans h2, h3⟩
end
/-- A table in the making, and made. -/
def NbT (W : World) (v : Value) (z : Nat) : Prop := ∃ p, v = .pointer (some ⟨p, 0, none⟩) ∧ Blk W p 40 #[.int .i64 0, .int .i64 0, .slice none 0 0] ∧ z ≤ p
def TbS (W : World) (v : Value) (S : List Nat → Prop) (R C N : Nat) : Prop := ∃ g T, v = .agg #[.int .i64 (R : Int), .int .i64 (C : Int), .slice (some ⟨g, 0, none⟩) N N] ∧ S T ∧ Row W (some ⟨g, 0, none⟩) (f64s T)
def PkT (W : World) (v : Value) (z : Nat) (S : List Nat → Prop) (R C N : Nat) : Prop := ∃ p g T, v = .pointer (some ⟨p, 0, none⟩) ∧ Blk W p 40 #[.int .i64 (R : Int), .int .i64 (C : Int), .slice (some ⟨g, 0, none⟩) N N] ∧ S T ∧ Row W (some ⟨g, 0, none⟩) (f64s T) ∧ z ≤ p
theorem NbT.below {W W' : World} {v : Value} {z : Nat} (h : NbT W v z) (hb : Below W.heap.size W W') : NbT W' v z := by
  obtain ⟨p, h1, h2, h3⟩ := h; exact ⟨p, h1, h2.nxt hb, h3⟩
theorem TbS.below {W W' : World} {v : Value} {S : List Nat → Prop} {R C N : Nat} (h : TbS W v S R C N) (hb : Below W.heap.size W W') : TbS W' v S R C N := by
  obtain ⟨g, T, h1, h2, h3⟩ := h; exact ⟨g, T, h1, h2, Row.below h3 hb⟩
theorem PkT.below {W W' : World} {v : Value} {z : Nat} {S : List Nat → Prop} {R C N : Nat} (h : PkT W v z S R C N) (hb : Below W.heap.size W W') : PkT W' v z S R C N := by
  obtain ⟨p, g, T, h1, h2, h3, h4, h5⟩ := h; exact ⟨p, g, T, h1, h2.nxt hb, h3, Row.below h4 hb, h5⟩
/-- A list of floats isn't the box of a table. -/
theorem row_off3 {W : World} {B : Option Addr} {X : List Nat} {p : Nat} {t : TypeId} (h : Row W B (f64s X)) (hB : Blk W p t #[.int .i64 0, .int .i64 0, .slice none 0 0]) (u0 u1 u2 : Value) : Row (((W.setCell ⟨p, 0, none⟩ u0).setCell ⟨p, 1, none⟩ u1).setCell ⟨p, 2, none⟩ u2) B (f64s X) := by
  rcases h with h | ⟨b, o, rfl, hc⟩
  · exact .inl h
  · refine .inr ⟨b, o, rfl, fun j u hj => ?_⟩
    have h1 := hc j u hj
    obtain ⟨hj2, rfl⟩ := f64s_get? hj
    have hne : b ≠ p := by
      intro e
      subst e
      rw [hB.cell] at h1
      rcases hk : o + j with _ | _ | _ | m <;> rw [hk] at h1 <;> simp at h1
    exact (cell_set hne _).trans ((cell_set hne _).trans ((cell_set hne _).trans h1))
end Go.Proofs.Ytodoibioedelgaa
