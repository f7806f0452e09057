/-
Int and Of: a dyadic number of an int, of a float.
-/
import Derived.Test.YtbkbeglmfhaleaaGreatDoorOfm
set_option linter.unusedVariables false
namespace Go.Proofs.YtbkbeglmfhaleaaGreatDoor
open Go.RowKit
attribute [local go_sem ↓] Go.wp_at_zero Go.wp_at_succ

theorem wl_small {k : Int} (h0 : -9223372036854775808 ≤ k) (h1 : k ≤ 9223372036854775807) : wl k ≤ 1 := (wl_le k 1).2 (by rw [Nat.pow_one, Q_val]; omega)
set_option maxHeartbeats 1000000 in
theorem int_any (k : Int) (w : World) (h0 : -9223372036854775808 ≤ k) (h1 : k ≤ 9223372036854775807) (hg : Glob w) :
    Calls Tryz.prog 51 #[.int .i64 k] w (RetD (dy k 0) w) := by
  have HG := Lib.hid hg
  have HK := Lib.hid (wl_small h0 h1)
  clear hg
  go_enter Tryz.func51, Tryz.ntmps51
  go_wp2_with fail
  refine (wholeOf_any k _ h0 h1).mono ?_
  rintro e w1 ⟨A, n, c, rfl, hW, hb⟩
  have hB := (Blk.new w 37 #[.bool false, .slice none 0 0, .bool false, .slice none 0 0]).next hb
  have HB := Lib.hid hB
  have HW := Lib.hid hW
  have HBl := Lib.hid (((Below.refl w.heap.size w).alloc (Nat.le_refl _) _).trans (hb.mono (by simp)))
  clear hb hB hW
  go_wp2_with fail
  refine (canonical_any A n c k none 0 0 0 _ HW.out (Wh.zero _ _ _) (by have := HW.out.1; have := HK.out; omega) (by omega) (HG.out.below HBl.out)).mono ?_
  rintro e w2 ⟨A1, n1, c1, A2, n2, c2, rfl, hD, hb⟩
  have hB := HB.out.next hb
  have HB2 := Lib.hid hB
  have HD := Lib.hid hD
  have HBl2 := Lib.hid (HBl.out.trans (hb.mono HBl.out.size))
  obtain ⟨r0, r1, r2, r3, f0, f1, f2, f3⟩ := cells4 hB
  clear hb hB hD HB HBl
  go_wp2_with fail
  clear r0 r1 r2 r3 f0 f1 f2 f3
  obtain ⟨k0, k1, k2, k3, _⟩ := cells4 (Blk.store4 HB2.out (.bool (ng (mant (dy k 0)))) (.slice A1 n1 c1) (.bool (ng (expo (dy k 0)))) (.slice A2 n2 c2))
  exact bodyPost_ret (v := .agg #[.bool (ng (mant (dy k 0))), .slice A1 n1 c1, .bool (ng (expo (dy k 0))), .slice A2 n2 c2]) (by simp [results, Tryz.results51, go_sem, k0, k1, k2, k3]) rfl
    (RetD_def _ _ _ _ _ _ _ _ _ _ _ _ _ rfl rfl rfl rfl (Wh.store4 HD.out.1 HB2.out _ _ _ _) (Wh.store4 HD.out.2 HB2.out _ _ _ _) ((((HBl2.out.setCell (by simp) _).setCell (by simp) _).setCell (by simp) _).setCell (by simp) _))

/-- The call returned the dyadic number d, and that it is one. -/
def RetT (d : Dyadic) (r : Int) (w : World) (e : Ending) (w' : World) : Prop :=
  ∃ A n c A' n' c', e = .returned (.tuple #[.agg #[.bool (ng (mant d)), .slice A n c, .bool (ng (expo d)), .slice A' n' c'], .int .i64 r]) ∧ Dr w' A n c A' n' c' d ∧ Below w.heap.size w w'
theorem RetT_def (d : Dyadic) (r : Int) (w : World) (a a' : Bool) (A A' : Option Addr) (n c n' c' : Nat) (m e : Int) (w' : World) (hm : mant d = m) (he : expo d = e) (ha : a = ng m) (ha' : a' = ng e) (h : Wh w' A n c m) (h' : Wh w' A' n' c' e) (hb : Below w.heap.size w w') :
    RetT d r w (.returned (.tuple #[.agg #[.bool a, .slice A n c, .bool a', .slice A' n' c'], .int .i64 r])) w' := by
  subst ha ha' hm he; exact ⟨A, n, c, A', n', c', rfl, ⟨h, h'⟩, hb⟩

/-- Of at a float that isn't finite. -/
theorem of_none (b : Nat) (w : World) (hb : b < 18446744073709551616) (hf : Fl.fin b = false) :
    Calls Tryz.prog 30 #[.float .f64 b] w (RetT 0 8 w) := by
  have HF := Lib.hid hf
  clear hf
  go_enter Tryz.func30, Tryz.ntmps30
  go_wp2_with fail
  refine (finite_one _ _ b _ hb (by simp)).mono ?_
  rintro e w1 ⟨rfl, rfl⟩
  rw [HF.out]
  go_wp2_with fail
  have HB := ((Blk.new w 37 #[.bool false, .slice none 0 0, .bool false, .slice none 0 0]).alloc (.cells #[.float .f64 b] 44))
  obtain ⟨k0, k1, k2, k3, _⟩ := cells4 HB
  exact bodyPost_ret (v := .tuple #[.agg #[.bool false, .slice none 0 0, .bool false, .slice none 0 0], .int .i64 8]) (by simp [results, Tryz.results30, go_sem, k0, k1, k2, k3]) rfl
    (RetT_def 0 8 _ _ _ _ _ _ _ _ _ 0 0 _ rfl rfl rfl rfl (Wh.zero _ _ _) (Wh.zero _ _ _) ((((Below.refl w.heap.size w).alloc (Nat.le_refl _) _)).alloc (by simp) _))
/-- Of, the digits told. -/
theorem of_some (b : Nat) (x k : Int) (w : World) (hb : b < 18446744073709551616) (hf : Fl.fin b = true) (hx : expOf b = k + 52) (hk0 : -1126 ≤ k) (hk1 : k ≤ 971) (hc : floatToIntVal .f64 (Fl.scale b (-k)) .i64 = some x) (hx0 : -9223372036854775808 ≤ x) (hx1 : x ≤ 9223372036854775807) (hg : Glob w) :
    Calls Tryz.prog 30 #[.float .f64 b] w (RetT (dy x k) 0 w) := by
  have HF := Lib.hid hf
  have HG := Lib.hid hg
  have HK := Lib.hid (wl_small hx0 hx1)
  have HK2 := Lib.hid (wl_small (k := k) (by omega) (by omega))
  have hcv : ∀ w, (convert 44 3 (.float .f64 (Fl.scale b (-k)))).run Tryz.prog w = .ok (.int .i64 x) w := fun w => run_convert_float_int w 44 3 .f64 .i64 _ x (by rw [Tryz.underlying44]; rfl) Tryz.underlying3 hc
  have HX := Lib.hid hx
  clear hf hg hc hx
  go_enter Tryz.func30, Tryz.ntmps30
  go_wp2_with fail
  refine (finite_one _ _ b _ hb (by simp)).mono ?_
  rintro e w1 ⟨rfl, rfl⟩
  rw [HF.out]
  go_wp2_with fail
  refine (exp_any b _ hb).mono ?_
  rintro e w1 ⟨rfl, hb1⟩
  rw [HX.out]
  have hB := ((Blk.new w 37 #[.bool false, .slice none 0 0, .bool false, .slice none 0 0]).alloc (.cells #[.float .f64 b] 44)).next hb1
  have HB := Lib.hid hB
  have HBl := Lib.hid ((((Below.refl w.heap.size w).alloc (Nat.le_refl _) _).alloc (by simp) _).trans (hb1.mono (by simp; omega)))
  clear hb1 hB
  go_wp2_with fail
  refine (scale_any b (-k) _ hb).mono ?_
  rintro e w2 ⟨rfl, hb2⟩
  have HB1 := Lib.hid (HB.out.next hb2)
  have HBl1 := Lib.hid (HBl.out.trans (hb2.mono HBl.out.size))
  clear hb2
  go_wp2_with fail
  refine (wholeOf_any x _ hx0 hx1).mono ?_
  rintro e w3 ⟨A, n, c, rfl, hW, hb⟩
  have HB2 := Lib.hid (HB1.out.next hb)
  have HBl2 := Lib.hid (HBl1.out.trans (hb.mono HBl1.out.size))
  have HW := Lib.hid hW
  clear hb hW hcv
  go_wp2_with fail
  refine (wholeOf_any k _ (by omega) (by omega)).mono ?_
  rintro e w4 ⟨A', n', c', rfl, hW, hb⟩
  have HB3 := Lib.hid (HB2.out.next hb)
  have HBl3 := Lib.hid (HBl2.out.trans (hb.mono HBl2.out.size))
  have HW1 := Lib.hid (HW.out.below hb)
  have HW2 := Lib.hid hW
  clear hb hW
  go_wp2_with fail
  refine (canonical_any A n c x A' n' c' k _ HW1.out HW2.out (by have := HW1.out.1; have := HK.out; omega) (by have := HW2.out.1; have := HK2.out; omega) (HG.out.below HBl3.out)).mono ?_
  rintro e w5 ⟨A1, n1, c1, A2, n2, c2, rfl, hD, hb⟩
  have hB := HB3.out.next hb
  have HB4 := Lib.hid hB
  have HD := Lib.hid hD
  have HBl4 := Lib.hid (HBl3.out.trans (hb.mono HBl3.out.size))
  obtain ⟨r0, r1, r2, r3, f0, f1, f2, f3⟩ := cells4 hB
  clear hb hB hD
  go_wp2_with fail
  clear r0 r1 r2 r3 f0 f1 f2 f3
  obtain ⟨k0, k1, k2, k3, _⟩ := cells4 (Blk.store4 HB4.out (.bool (ng (mant (dy x k)))) (.slice A1 n1 c1) (.bool (ng (expo (dy x k)))) (.slice A2 n2 c2))
  exact bodyPost_ret (v := .tuple #[.agg #[.bool (ng (mant (dy x k))), .slice A1 n1 c1, .bool (ng (expo (dy x k))), .slice A2 n2 c2], .int .i64 0]) (by simp [results, Tryz.results30, go_sem, k0, k1, k2, k3]) rfl
    (RetT_def _ _ _ _ _ _ _ _ _ _ _ _ _ _ rfl rfl rfl rfl (Wh.store4 HD.out.1 HB4.out _ _ _ _) (Wh.store4 HD.out.2 HB4.out _ _ _ _) ((((HBl4.out.setCell (by simp) _).setCell (by simp) _).setCell (by simp) _).setCell (by simp) _))

/-- Of. -/
theorem of_any (b : Nat) (w : World) (hb : b < 18446744073709551616) (hg : Glob w) :
    Calls Tryz.prog 30 #[.float .f64 b] w (RetT (if Fl.fin b then fdy b else 0) (if Fl.fin b then 0 else 8) w) := by
  cases hf : Fl.fin b with
  | false => exact of_none b w hb hf
  | true =>
    have hlt : Fl.rung b < Fl.INF := of_decide_eq_true hf
    by_cases h0 : Fl.rung b = 0
    · have hs : Fl.scale b (-(-52)) = b := by unfold Fl.scale; rw [if_pos (.inl h0)]
      have := of_some b 0 (-52) w hb hf (by unfold expOf; rw [if_pos (.inl h0)]; omega) (by omega) (by omega) (by rw [hs]; exact zero_int hb h0) (by omega) (by omega) hg
      rw [dy_zero] at this
      rw [if_pos rfl, if_pos rfl, fdy_zero h0]
      exact this
    · have hd := Fl.dm_bounds h0
      have he := Fl.de_bounds hlt
      have hx : expOf b = Fl.de b + 52 := by rw [Fl.log_digits h0]; unfold expOf; rw [if_neg (by omega)]
      have hr : -9223372036854775808 ≤ fdm b ∧ fdm b ≤ 9223372036854775807 := by unfold fdm; split <;> omega
      have := of_some b (fdm b) (Fl.de b) w hb hf hx he.1 he.2 (fdm_int h0 hlt) hr.1 hr.2 hg
      rw [fdy_digits h0 hlt] at this
      rw [if_pos rfl, if_pos rfl]
      exact this
end Go.Proofs.YtbkbeglmfhaleaaGreatDoor
