/-
Ger: what it makes is one number, by both; the law's example. Conditions: as each says.
-/
import Derived.Test.YtmjaakngiilmdaaZGrC
import Derived.Test.YtmjaakngiilmdaaZGrF
import Derived.Test.YtmjaakngiilmdaaGf
import Derived.Test.YtmjaakngiilmdaaGh
set_option linter.unusedVariables false
set_option linter.unusedSimpArgs false
set_option linter.unnecessarySimpa false
namespace Go.Proofs.Ytmjaakngiilmdaa
open Go.RowKit
attribute [local go_sem ↓] Go.wp_at_zero Go.wp_at_succ

theorem GerR.is_ {a : Nat} {lx : List Nat} {ox ix : Nat} {ly : List Nat} {oy iy : Nat} {l : List Nat} {o L i j r : Nat} (ha : a < 18446744073709551616) (hx : Wds lx) (hy : Wds ly) (hl : Wds l) (h : GerR a lx ox ix ly oy iy l o L i j r) :
    Is r (fbin .add (l.getD (o + i + j * L) 0) (fbin .mul (fbin .mul a (ly.getD (oy + j * iy) 0)) (lx.getD (ox + i * ix) 0))) := by
  obtain ⟨t, p, h1, h2, h3⟩ := h
  exact h3.is_ (Is.refl (gr_wds hl _)) (h2.is_ (h1.is_ (Is.refl ha) (Is.refl (gr_wds hy _))) (Is.refl (gr_wds hx _)))
theorem GerT.is_ {a : Nat} {X Y T : List Nat} {C i j r : Nat} (ha : a < 18446744073709551616) (hx : Wds X) (hy : Wds Y) (hl : Wds T) (h : GerT a X Y T C i j r) :
    Is r (fbin .add (T.getD (i * C + j) 0) (fbin .mul (fbin .mul a (Y.getD j 0)) (X.getD i 0))) := by
  obtain ⟨t, p, h1, h2, h3⟩ := h
  exact h3.is_ (Is.refl (gr_wds hl _)) (h2.is_ (h1.is_ (Is.refl ha) (Is.refl (gr_wds hy _))) (Is.refl (gr_wds hx _)))
/-- The program's list and the document's are alike. -/
theorem alike_img {l l' l2 : List Nat} {o R C L : Nat} {P : Nat → Nat → Nat → Prop} {T : Nat → Nat → Nat} (h : Imr l o R C L P l') (h2 : Img l o R C L T l2) (hs : ∀ a, a < R → ∀ b, b < C → ∀ r, P a b r → sameB r (T a b) = true) : Alike l' l2 := by
  refine ⟨h.1.trans h2.1.symm, fun x hx hx2 => ?_⟩
  rw [← getD_of_lt hx, ← getD_of_lt hx2]
  by_cases e : ∃ a, a < R ∧ ∃ b, b < C ∧ x = o + a + b * L
  · obtain ⟨a, ha, b, hb, rfl⟩ := e
    rw [h2.2.1 a ha b hb]
    exact hs a ha b hb _ (h.2.1 a ha b hb)
  · have e2 : ∀ a, a < R → ∀ b, b < C → x ≠ o + a + b * L := fun a ha b hb e3 => e ⟨a, ha, b, hb, e3⟩
    rw [h.2.2 x e2, h2.2.2 x e2]
    exact sameB_refl _
theorem wds_of_getD {l : List Nat} (h : ∀ k, k < l.length → l.getD k 0 < 18446744073709551616) : Wds l := by
  intro b hb
  obtain ⟨k, hk, rfl⟩ := List.mem_iff_getElem.1 hb
  rw [← getD_of_lt hk]
  exact h k hk
theorem wds_imr {l l' : List Nat} {o R C L : Nat} {P : Nat → Nat → Nat → Prop} (hl : Wds l) (h : Imr l o R C L P l') (hp : ∀ a, a < R → ∀ b, b < C → ∀ r, P a b r → r < 18446744073709551616) : Wds l' := by
  refine wds_of_getD fun x hx => ?_
  by_cases e : ∃ a, a < R ∧ ∃ b, b < C ∧ x = o + a + b * L
  · obtain ⟨a, ha, b, hb, rfl⟩ := e
    exact hp a ha b hb _ (h.2.1 a ha b hb)
  · rw [h.2.2 x (fun a ha b hb e3 => e ⟨a, ha, b, hb, e3⟩)]
    exact gr_wds hl _
theorem wds_img2 {l l' : List Nat} {o R C L : Nat} {T : Nat → Nat → Nat} (hl : Wds l) (h : Img l o R C L T l') (hp : ∀ a, a < R → ∀ b, b < C → T a b < 18446744073709551616) : Wds l' := by
  refine wds_of_getD fun x hx => ?_
  by_cases e : ∃ a, a < R ∧ ∃ b, b < C ∧ x = o + a + b * L
  · obtain ⟨a, ha, b, hb, rfl⟩ := e
    rw [h.2.1 a ha b hb]
    exact hp a ha b hb
  · rw [h.2.2 x (fun a ha b hb e3 => e ⟨a, ha, b, hb, e3⟩)]
    exact gr_wds hl _
def exG1 : List Nat := [4607182418800017408, 4611686018427387904]
def exG2 : List Nat := [4613937818241073152, 4616189618054758400]
def exG3 : List Nat := [4613937818241073152, 4618441417868443648, 4616189618054758400, 4620693217682128896]
def exZ4 : List Nat := [0, 0, 0, 0]
theorem exG1_wds : Wds exG1 := by intro b hb; simp [exG1] at hb; omega
theorem exG2_wds : Wds exG2 := by intro b hb; simp [exG2] at hb; omega
theorem exG3_wds : Wds exG3 := by intro b hb; simp [exG3] at hb; omega
theorem exZ4_wds : Wds exZ4 := by intro b hb; simp [exZ4] at hb; omega
theorem ex_dense0 {M : List Nat} (h : Dense [] 2 2 M) : M = exZ4 := by
  refine dense_ex (a := 0) (b := 0) (c := 0) (d := 0) ⟨h.1, fun p hp => (h.2 p hp).trans ?_⟩
  match p, hp with
  | 0, _ => rfl
  | 1, _ => rfl
  | 2, _ => rfl
  | 3, _ => rfl
  | p + 4, hp => omega
theorem ex_ger {l' : List Nat} (h : Imr exZ4 0 2 2 2 (GerR 4607182418800017408 exG1 0 1 exG2 0 1 exZ4 0 2) l') : l' = exG3 := by
  have key : ∀ a b v, a < 2 → b < 2 → fbin .add (exZ4.getD (0 + a + b * 2) 0) (fbin .mul (fbin .mul 4607182418800017408 (exG2.getD (0 + b * 1) 0)) (exG1.getD (0 + a * 1) 0)) = v → Fl.nan v = false → l'.getD (0 + a + b * 2) 0 = v := by
    intro a b v ha hb hv hn
    have := (h.2.1 a ha b hb).is_ (by omega) exG1_wds exG2_wds exZ4_wds
    rw [hv] at this
    exact this.eq_of hn
  refine ext_getD (by rw [h.1]; rfl) fun x hx => ?_
  have hx4 : x < 4 := by rw [h.1] at hx; exact hx
  match x, hx4 with
  | 0, _ => exact key 0 0 _ (by omega) (by omega) (by decide +kernel) (by decide)
  | 1, _ => exact key 1 0 _ (by omega) (by omega) (by decide +kernel) (by decide)
  | 2, _ => exact key 0 1 _ (by omega) (by omega) (by decide +kernel) (by decide)
  | 3, _ => exact key 1 1 _ (by omega) (by omega) (by decide +kernel) (by decide)
/-- A vector and a matrix in lists of their own don't meet. -/
theorem grmeets_far (gx cx nx : Nat) (lx : List Nat) (ox k ix : Int) (g c n : Nat) (l : List Nat) (o r q L : Int) (w : World) (hX : Own w gx lx) (hO : Own w g l) (hne : gx ≠ g) (hlx : lx.length = nx) (hl : l.length = n) (hnx : nx < 9223372036854775808) (hn : n < 9223372036854775808) (hox : I64 ox) (hk : I64 k) (hix : I64 ix) (ho : I64 o) (hr : I64 r) (hq : I64 q) (hL : I64 L) :
    Calls Try.prog 48 #[vec (some ⟨gx, 0, none⟩) nx cx ox k ix, mat (some ⟨g, 0, none⟩) n c o r q L] w fun e w' => e = .returned (.bool false) ∧ Below w.heap.size w w' := by
  refine grmeets_any _ nx cx ox k ix _ n c o r q L false w fun W hb => ?_
  have := meet_own gx g cx c lx l ox 1 k ix o r q L W (hX.nxt hb) (hO.nxt hb) (by omega) hox (by unfold I64; omega) hk hix (by omega) ho hr hq hL
  rw [show decide (gx = g) = false from decide_eq_false hne, Bool.and_false, Bool.false_and, hlx, hl] at this
  exact this
/-- In one list: just if their spans do. -/
theorem grmeets_one (g cx c n : Nat) (l : List Nat) (ox k ix : Int) (o r q L : Int) (b : Bool) (w : World) (hO : Own w g l) (hl : l.length = n) (hn : n < 9223372036854775808) (hox : I64 ox) (hk : I64 k) (hix : I64 ix) (ho : I64 o) (hr : I64 r) (hq : I64 q) (hL : I64 L)
    (hb : (bothB n ox 1 k ix n o r q L && (decide (ox ≤ lastI o r q L) && decide (o ≤ lastI ox 1 k ix))) = b) :
    Calls Try.prog 48 #[vec (some ⟨g, 0, none⟩) n cx ox k ix, mat (some ⟨g, 0, none⟩) n c o r q L] w fun e w' => e = .returned (.bool b) ∧ Below w.heap.size w w' := by
  refine grmeets_any _ n cx ox k ix _ n c o r q L b w fun W hb2 => ?_
  have := meet_own g g cx c l l ox 1 k ix o r q L W (hO.nxt hb2) (hO.nxt hb2) (by omega) hox (by unfold I64; omega) hk hix (by omega) ho hr hq hL
  rw [show decide (g = g) = true from decide_eq_true rfl, Bool.and_true, hl, hb] at this
  exact this
set_option maxHeartbeats 1000000 in
theorem awake8_any (w : World) : Calls Try.prog 12 #[] w fun e w' => e = .returned (.bool true) ∧ Below w.heap.size w w' := by
  have z0 : I64 0 := by unfold I64; omega
  have z1 : I64 1 := by unfold I64; omega
  have z2 : I64 2 := by unfold I64; omega
  have HDn := Lib.hid (fun W => show Calls Try.prog 8 #[.int .i64 2, .int .i64 2, .slice none 0 0] W fun e w' => ∃ g, e = .returned (.agg #[.slice (some ⟨g, 0, none⟩) 4 4, .int .i64 0, .int .i64 2, .int .i64 2, .int .i64 2]) ∧ Own w' g exZ4 ∧ W.heap.size ≤ g ∧ Below W.heap.size W w' from by
    refine (dense_blk none 0 [] 2 2 W (by omega) (by omega) (.inl rfl) (by decide) (by decide)).mono ?_
    rintro e w' ⟨g', M, rfl, hd, hB, hg, hb⟩
    obtain rfl := ex_dense0 hd
    exact ⟨g', rfl, own_blk hB, hg, hb⟩)
  have HGe := Lib.hid (fun (g gx gy : Nat) W (hO : Own W g exZ4) (hX : Own W gx exG1) (hY : Own W gy exG2) (h1 : gx ≠ g) (h2 : gy ≠ g) => show Calls Try.prog 17 #[.float .f64 4607182418800017408, .agg #[.slice (some ⟨gx, 0, none⟩) 2 2, .int .i64 0, .int .i64 2, .int .i64 1], .agg #[.slice (some ⟨gy, 0, none⟩) 2 2, .int .i64 0, .int .i64 2, .int .i64 1], .agg #[.slice (some ⟨g, 0, none⟩) 4 4, .int .i64 0, .int .i64 2, .int .i64 2, .int .i64 2]] W fun e w' => e = .returned (.int .i64 0) ∧ Own w' g exG3 ∧ Chg [g] W w' from by
    refine (grger_ok 4607182418800017408 gx 2 2 exG1 0 1 gy 2 2 exG2 0 1 g 4 4 exZ4 0 2 2 2 W hX hY hO rfl rfl rfl (by omega) (by omega) (by omega) (by omega) (by omega) z0 z1 z0 z1 z0 z2 (by omega) (by omega) (by omega) (by omega) (by omega) (by omega) (by omega) (fun e => (h1 e.symm).elim) (fun e => (h2 e.symm).elim)
      (fun W' hb => grmeets_far gx 2 2 exG1 0 2 1 g 4 4 exZ4 0 2 2 2 W' (hX.nxt hb) (hO.nxt hb) h1 rfl rfl (by omega) (by omega) z0 z2 z1 z0 z2 z2 z2)
      (fun W' hb => grmeets_far gy 2 2 exG2 0 2 1 g 4 4 exZ4 0 2 2 2 W' (hY.nxt hb) (hO.nxt hb) h2 rfl rfl (by omega) (by omega) z0 z2 z1 z0 z2 z2 z2)).mono ?_
    rintro e w' ⟨rfl, l', k1, k2, k3⟩
    rw [ex_ger k2] at k1
    exact ⟨rfl, k1, k3⟩)
  have HAl := Lib.hid (fun (A B : Option Addr) (W : World) (h : Row W A (f64s exG3)) (h' : Row W B (f64s exG3)) => show Calls Try.prog 23 #[.slice A 4 4, .slice B 4 4] W fun e w' => e = .returned (.bool true) ∧ Below W.heap.size W w' from
    rall_any A B 4 4 exG3 exG3 W exG3_wds exG3_wds h h' (by decide) (Alike.refl _))
  have HB0 := Lib.hid ((Below.refl w.heap.size w))
  clear z0 z1 z2
  go_enter Try.func12, Try.ntmps12
  go_wp2_with fail
  refine (HDn.out _).mono ?_
  rintro e w1 ⟨g, rfl, hO, hg, hb⟩
  have HB1 := Lib.hid (below_al (below_nx HB0.out hb) (o := (.cells #[.slice (some ⟨g, 0, none⟩) 4 4, .int .i64 0, .int .i64 2, .int .i64 2, .int .i64 2] 26)))
  have HM1 := Lib.hid (Blk.new w1 26 #[.slice (some ⟨g, 0, none⟩) 4 4, .int .i64 0, .int .i64 2, .int .i64 2, .int .i64 2])
  have HO1 := Lib.hid (hO.nxt (below_one (o := (.cells #[.slice (some ⟨g, 0, none⟩) 4 4, .int .i64 0, .int .i64 2, .int .i64 2, .int .i64 2] 26))))
  have hgl : g < w1.heap.size := hO.lt
  clear hb hO
  obtain ⟨m0, m1, m2, m3, m4⟩ := cells5 HM1.out
  go_wp2_with fail
  clear m0 m1 m2 m3 m4
  generalize hw2 : w1.alloc (.cells #[.slice (some ⟨g, 0, none⟩) 4 4, .int .i64 0, .int .i64 2, .int .i64 2, .int .i64 2] 26) = w2 at *
  have hsz : w2.heap.size = w1.heap.size + 1 := by rw [← hw2]; simp
  clear hw2
  have HOa := Lib.hid ((HO1.out.nxt (below_one (o := (.cells (f64s exG1).toArray 28)))).nxt (below_one (o := (.cells (f64s exG2).toArray 28))))
  have HMa := Lib.hid ((HM1.out.nxt (below_one (o := (.cells (f64s exG1).toArray 28)))).nxt (below_one (o := (.cells (f64s exG2).toArray 28))))
  have HX := Lib.hid (own_blk ((Blk.new_ w2 28 (f64s exG1).toArray (w1.heap.size + 1) hsz).alloc (.cells (f64s exG2).toArray 28)))
  have HY := Lib.hid (own_blk (Blk.new_ (w2.alloc (.cells (f64s exG1).toArray 28)) 28 (f64s exG2).toArray (w1.heap.size + 1 + 1) (by simp [hsz])))
  have HBa := Lib.hid (below_al (below_al HB1.out (o := (.cells (f64s exG1).toArray 28))) (o := (.cells (f64s exG2).toArray 28)))
  refine (HGe.out _ _ _ _ HOa.out HX.out HY.out (by omega) (by omega)).mono ?_
  rintro e w3 ⟨rfl, ho, hc⟩
  have HO3 := Lib.hid ho
  have HM3 := Lib.hid (hc.blk (by simp; omega) HMa.out)
  have HB3 := Lib.hid (hc.below HBa.out HBa.out.size (by intro x hx; simp at hx; subst hx; exact hg))
  clear ho hc
  obtain ⟨m0, m1, m2, m3, m4⟩ := cells5 HM3.out
  go_wp2_with fail
  clear m0 m1 m2 m3 m4
  have HR1 := Lib.hid (HO3.out.nxt (below_one (o := (.cells (f64s exG3).toArray 28)))).row
  have HR2 := Lib.hid (own_blk (Blk.new w3 28 (f64s exG3).toArray)).row
  have HB4 := Lib.hid (below_al HB3.out (o := (.cells (f64s exG3).toArray 28)))
  refine (HAl.out _ _ _ HR1.out HR2.out).mono ?_
  rintro e w4 ⟨rfl, hb⟩
  have HB5 := Lib.hid (below_nx HB4.out hb)
  clear hb
  go_wp2_with fail
  go_ret
  exact ⟨rfl, HB5.out⟩
end Go.Proofs.Ytmjaakngiilmdaa
