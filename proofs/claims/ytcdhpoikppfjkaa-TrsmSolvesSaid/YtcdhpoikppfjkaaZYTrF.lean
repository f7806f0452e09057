/-
Trsv: the program's Solve. Conditions: as each says.
-/
import Derived.Test.YtcdhpoikppfjkaaZYTrE
set_option linter.unusedVariables false
set_option linter.unusedSimpArgs false
set_option linter.unnecessarySimpa false
namespace Go.Proofs.Ytcdhpoikppfjkaa
open Go.RowKit
attribute [local go_sem ↓] Go.wp_at_zero Go.wp_at_succ

/-- What Solve makes. -/
def TrSd (gx : Nat) (ly : List Nat) (ox ix R : Nat) (F : Nat → Nat) (w : World) (e : Ending) (w' : World) : Prop := e = .returned (.int .i64 0) ∧ ∃ y, TrL ly ox ix R F y ∧ Own w' gx y ∧ Chg [gx] w w'
theorem trsolve_any (kd : Nat) (A : Option Addr) (n c o R L : Nat) (f : Nat → Nat → Nat) (gx nx cx ox ix : Nat) (ly : List Nat) (E : Nat → Nat → Nat) (F : Nat → Nat) (w : World) (H : TrH w kd A n c o R L f gx nx cx ox ix ly) (hS : TrS kd R (trV kd f) (fun p => ly.getD (ox + p * ix) 0) E F) (hM : MxC w A o R L f) (hX : Own w gx ly) (hW : Wds ly) :
    Calls Try.prog 52 #[tri (kd : Int) A n c o R R L, vec (some ⟨gx, 0, none⟩) nx cx ox R ix] w fun e w' => e = .returned (.tuple #[]) ∧ ∃ y, TrL ly ox ix R F y ∧ Own w' gx y ∧ Chg [gx] w w' := by
  rcases H.hkd with rfl | rfl | rfl | rfl
  · exact trsolve1 A n c o R L f gx nx cx ox ix ly E F w H hS hM hX hW
  · exact trsolve2 A n c o R L f gx nx cx ox ix ly E F w H hS hM hX hW
  · exact trsolve3 A n c o R L f gx nx cx ox ix ly E F w H hS hM hX hW
  · exact trsolve4 A n c o R L f gx nx cx ox ix ly E F w H hS hM hX hW

theorem TrH.nxt {w W : World} {kd : Nat} {A : Option Addr} {n c o R L : Nat} {f : Nat → Nat → Nat} {gx nx cx ox ix : Nat} {ly : List Nat} (H : TrH w kd A n c o R L f gx nx cx ox ix ly) (hb : Below w.heap.size w W) : TrH W kd A n c o R L f gx nx cx ox ix ly :=
  { H with hgx := Nat.lt_of_lt_of_le H.hgx hb.size }
set_option maxHeartbeats 2000000 in
theorem trsv_ok (kd : Nat) (hkd : kd = 1 ∨ kd = 2 ∨ kd = 3 ∨ kd = 4) (A : Option Addr) (n c o R L : Nat) (f : Nat → Nat → Nat) (gx nx cx ox ix : Nat) (ly : List Nat) (E : Nat → Nat → Nat) (F : Nat → Nat) (w : World) (hn : n < 1048576) (hLI : I64 L) (hRb : R < 1048576) (hL1 : 1 ≤ L) (hRL : R ≤ L) (hmr : R = 0 ∨ R = 0 ∨ o + (R - 1) * L + (R - 1) < n) (hoI : I64 o) (hnx : nx < 1048576) (hoxI : I64 ox) (hixI : I64 ix) (hix : 1 ≤ ix) (hxr : R = 0 ∨ ox + (R - 1) * ix < nx) (hx : ∀ W, Below w.heap.size w W → Calls Try.prog 50 #[vec (some ⟨gx, 0, none⟩) nx cx ox R ix, mat A n c o R R L] W fun e w' => e = .returned (.bool false) ∧ Below W.heap.size W w') (hM : MxC w A o R L f) (hz : trHZ kd f R = false) (H : TrH w kd A n c o R L f gx nx cx ox ix ly) (hS : TrS kd R (trV kd f) (fun p => ly.getD (ox + p * ix) 0) E F) (hX : Own w gx ly) (hW : Wds ly) : Calls Try.prog 34 #[.int .i64 (kd : Int), mat A n c o R R L, vec (some ⟨gx, 0, none⟩) nx cx ox R ix] w (TrSd gx ly ox ix R F w) := by
  have HR := Lib.hid (fun W => trright_any (kd : Int) A n c o R R L W (by omega) hoI (by unfold I64; omega) (by unfold I64; omega) hLI)
  have HV := Lib.hid (fun W => right_any (some ⟨gx, 0, none⟩) nx cx ox R ix W (by omega) hoxI (by unfold I64; omega) hixI)
  have HF := Lib.hid (fun W => trfits_any (kd : Int) A n c o R R L (R : Int) W)
  have hk1 : trK (kd : Int) = true := by rcases hkd with rfl | rfl | rfl | rfl <;> rfl
  rw [hk1, mat_right hL1 hRL hmr] at HR
  rw [vec_right hix hxr] at HV
  rw [show (((R : Int) == (R : Int)) && ((R : Int) == (R : Int))) = true from by simp] at HF
  have HMt := Lib.hid hx
  clear hk1
  have HH := Lib.hid (fun W (hb : Below w.heap.size w W) => trhaszero_any kd hkd A n c o R L f W (hM.below hb) hn hLI hRb hL1 hRL hmr)
  rw [hz] at HH
  have HSo := Lib.hid (fun W (hb : Below w.heap.size w W) => trsolve_any kd A n c o R L f gx nx cx ox ix ly E F W (H.nxt hb) hS (hM.below hb) (hX.nxt hb) hW)
  clear hM hz H hS hX hW
  clear hkd hn hLI hRb hL1 hRL hmr hoI hnx hoxI hixI hix hxr hx
  unfold mat vec tri at *
  go_enter Try.func34, Try.ntmps34
  have Hm0 := Lib.hid (((Blk.new w 24 #[.slice A n c, .int .i64 o, .int .i64 R, .int .i64 R, .int .i64 L]).alloc (.cells #[.slice (some ⟨gx, 0, none⟩) nx cx, .int .i64 ox, .int .i64 R, .int .i64 ix] 66)).alloc (.cells #[.int .i64 kd, .slice A n c, .int .i64 o, .int .i64 R, .int .i64 R, .int .i64 L] 80))
  have Hx0 := Lib.hid ((Blk.new_ (w.alloc (.cells #[.slice A n c, .int .i64 o, .int .i64 R, .int .i64 R, .int .i64 L] 24)) 66 #[.slice (some ⟨gx, 0, none⟩) nx cx, .int .i64 ox, .int .i64 R, .int .i64 ix] (w.heap.size + 1) (by simp)).alloc (.cells #[.int .i64 kd, .slice A n c, .int .i64 o, .int .i64 R, .int .i64 R, .int .i64 L] 80))
  have Ht0 := Lib.hid (Blk.new_ ((w.alloc (.cells #[.slice A n c, .int .i64 o, .int .i64 R, .int .i64 R, .int .i64 L] 24)).alloc (.cells #[.slice (some ⟨gx, 0, none⟩) nx cx, .int .i64 ox, .int .i64 R, .int .i64 ix] 66)) 80 #[.int .i64 kd, .slice A n c, .int .i64 o, .int .i64 R, .int .i64 R, .int .i64 L] (w.heap.size + 1 + 1) (by simp))
  have HB0 := Lib.hid ((((Below.refl w.heap.size w).alloc (Nat.le_refl _) (.cells #[.slice A n c, .int .i64 o, .int .i64 R, .int .i64 R, .int .i64 L] 24)).alloc (by simp) (.cells #[.slice (some ⟨gx, 0, none⟩) nx cx, .int .i64 ox, .int .i64 R, .int .i64 ix] 66)).alloc (by simp; omega) (.cells #[.int .i64 kd, .slice A n c, .int .i64 o, .int .i64 R, .int .i64 R, .int .i64 L] 80))
  obtain ⟨m0, m1, m2, m3, m4⟩ := cells5 Hm0.out
  obtain ⟨x0, x1, x2, x3⟩ := cells4w Hx0.out
  obtain ⟨t0, t1, t2, t3, t4, t5⟩ := cells6 Ht0.out
  obtain ⟨q0, q1, q2, q3, q4⟩ := cells5 ((Blk.new w 24 #[.slice A n c, .int .i64 o, .int .i64 R, .int .i64 R, .int .i64 L]).alloc (.cells #[.slice (some ⟨gx, 0, none⟩) nx cx, .int .i64 ox, .int .i64 R, .int .i64 ix] 66))
  go_wp2_with fail
  refine (HR.out _).mono ?_
  rintro e w1 ⟨rfl, hb⟩
  have Hm1 := Lib.hid (Hm0.out.nxt hb)
  have Hx1 := Lib.hid (Hx0.out.nxt hb)
  have Ht1 := Lib.hid (Ht0.out.nxt hb)
  have HB1 := Lib.hid (below_nx HB0.out hb)
  clear hb
  clear m0 m1 m2 m3 m4 x0 x1 x2 x3 t0 t1 t2 t3 t4 t5 q0 q1 q2 q3 q4
  obtain ⟨m0, m1, m2, m3, m4⟩ := cells5 Hm1.out
  obtain ⟨x0, x1, x2, x3⟩ := cells4w Hx1.out
  obtain ⟨t0, t1, t2, t3, t4, t5⟩ := cells6 Ht1.out
  go_wp2_with fail
  refine (HV.out _).mono ?_
  rintro e w2 ⟨rfl, hb⟩
  have Hm2 := Lib.hid (Hm1.out.nxt hb)
  have Hx2 := Lib.hid (Hx1.out.nxt hb)
  have Ht2 := Lib.hid (Ht1.out.nxt hb)
  have HB2 := Lib.hid (below_nx HB1.out hb)
  clear hb
  clear m0 m1 m2 m3 m4 x0 x1 x2 x3 t0 t1 t2 t3 t4 t5
  obtain ⟨m0, m1, m2, m3, m4⟩ := cells5 Hm2.out
  obtain ⟨x0, x1, x2, x3⟩ := cells4w Hx2.out
  obtain ⟨t0, t1, t2, t3, t4, t5⟩ := cells6 Ht2.out
  go_wp2_with fail
  refine (HF.out _).mono ?_
  rintro e w3 ⟨rfl, hb⟩
  have Hm3 := Lib.hid (Hm2.out.nxt hb)
  have Hx3 := Lib.hid (Hx2.out.nxt hb)
  have Ht3 := Lib.hid (Ht2.out.nxt hb)
  have HB3 := Lib.hid (below_nx HB2.out hb)
  clear hb
  clear m0 m1 m2 m3 m4 x0 x1 x2 x3 t0 t1 t2 t3 t4 t5
  obtain ⟨m0, m1, m2, m3, m4⟩ := cells5 Hm3.out
  obtain ⟨x0, x1, x2, x3⟩ := cells4w Hx3.out
  obtain ⟨t0, t1, t2, t3, t4, t5⟩ := cells6 Ht3.out
  go_wp2_with fail
  refine (HMt.out _ HB3.out).mono ?_
  rintro e w4 ⟨rfl, hb⟩
  have Hm4 := Lib.hid (Hm3.out.nxt hb)
  have Hx4 := Lib.hid (Hx3.out.nxt hb)
  have Ht4 := Lib.hid (Ht3.out.nxt hb)
  have HB4 := Lib.hid (below_nx HB3.out hb)
  clear hb
  clear m0 m1 m2 m3 m4 x0 x1 x2 x3 t0 t1 t2 t3 t4 t5
  obtain ⟨m0, m1, m2, m3, m4⟩ := cells5 Hm4.out
  obtain ⟨x0, x1, x2, x3⟩ := cells4w Hx4.out
  obtain ⟨t0, t1, t2, t3, t4, t5⟩ := cells6 Ht4.out
  go_wp2_with fail
  refine (HH.out _ HB4.out).mono ?_
  rintro e w5 ⟨rfl, hb⟩
  have Hm5 := Lib.hid (Hm4.out.nxt hb)
  have Hx5 := Lib.hid (Hx4.out.nxt hb)
  have Ht5 := Lib.hid (Ht4.out.nxt hb)
  have HB5 := Lib.hid (below_nx HB4.out hb)
  clear hb
  clear m0 m1 m2 m3 m4 x0 x1 x2 x3 t0 t1 t2 t3 t4 t5
  obtain ⟨m0, m1, m2, m3, m4⟩ := cells5 Hm5.out
  obtain ⟨x0, x1, x2, x3⟩ := cells4w Hx5.out
  obtain ⟨t0, t1, t2, t3, t4, t5⟩ := cells6 Ht5.out
  go_wp2_with fail
  refine (HSo.out _ HB5.out).mono ?_
  rintro e w6 ⟨rfl, h9⟩
  have HE := Lib.hid h9
  clear h9
  clear m0 m1 m2 m3 m4 x0 x1 x2 x3 t0 t1 t2 t3 t4 t5
  go_wp2_with fail
  go_ret
  obtain ⟨y, h1, h2, h3⟩ := HE.out
  exact ⟨rfl, y, h1, h2, (Chg.of_below HB5.out).trans h3⟩

end Go.Proofs.Ytcdhpoikppfjkaa
