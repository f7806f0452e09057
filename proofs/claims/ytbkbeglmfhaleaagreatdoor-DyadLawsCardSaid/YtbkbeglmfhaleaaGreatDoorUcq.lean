/-
A float's digits as an int, and its value as a dyadic number.
-/
import Derived.Test.YtbkbeglmfhaleaaGreatDoorNumD
import Derived.Test.YtbkbeglmfhaleaaGreatDoorFdy
import Derived.Test.YtbkbeglmfhaleaaGreatDoorCan
import Derived.Laws.FloatArith
set_option linter.unusedVariables false
namespace Go.Proofs.YtbkbeglmfhaleaaGreatDoor
open Go.RowKit Ieee

/-- A float's digits, with its sign. -/
def fdm (b : Nat) : Int := if Fl.sg b then -(Fl.dm b : Int) else (Fl.dm b : Int)

theorem signed_zero (s : Bool) (n : Nat) : signed s n 0 = if s then -(n : Int) else (n : Int) := by
  cases s <;> simp [signed]
theorem cut_none (s : Bool) (n : Nat) : Toward.zero.cut s n 0 = n := by
  simp [Toward.cut]
theorem fdm_scl {b : Nat} (h0 : Fl.rung b ≠ 0) (hf : Fl.rung b < Fl.INF) : Fl.scale b (-(Fl.de b)) = Fl.wd (Fl.sg b) (1074 * 4503599627370496 + Fl.dm b) := by
  have hd := Fl.dm_bounds h0
  unfold Fl.scale
  rw [if_neg (by omega), Fl.scl_digits, show Fl.de b + 1074 + -(Fl.de b) = ((1074 : Nat) : Int) by omega, Fl.scl_exact _ _ hd.2 (.inl hd.1)]
  congr 1
  unfold Fl.cap Fl.INF
  omega
theorem fdm_int {b : Nat} (h0 : Fl.rung b ≠ 0) (hf : Fl.rung b < Fl.INF) : floatToIntVal .f64 (Fl.scale b (-(Fl.de b))) .i64 = some (fdm b) := by
  have hd := Fl.dm_bounds h0
  obtain ⟨r, hr⟩ : ∃ r, 1074 * 4503599627370496 + Fl.dm b = r := ⟨_, rfl⟩
  have hlt : r < 9223372036854775808 := by omega
  have hread : double.read (Fl.wd (Fl.sg b) r) = .number (Fl.sg b) (Fl.dm b) 0 := by
    rw [Fl.read_eq, Fl.rung_wd _ hlt, Fl.sg_wd _ hlt, if_neg (by omega), if_pos (by unfold Fl.INF; omega)]
    rw [show r % 4503599627370496 = Fl.dm b - 4503599627370496 by omega, show r / 4503599627370496 = 1075 by omega]
    rw [show 4503599627370496 + (Fl.dm b - 4503599627370496) = Fl.dm b by omega]
    rfl
  have htoi : (double.read (Fl.wd (Fl.sg b) r)).toInt .zero = some (fdm b) := by
    rw [hread]
    show some (signed (Fl.sg b) (Toward.zero.cut (Fl.sg b) (Fl.dm b <<< 0) 0) 0) = _
    rw [cut_none, Nat.shiftLeft_zero, signed_zero]
    rfl
  have hb1 : -9223372036854775808 ≤ fdm b ∧ fdm b ≤ 9223372036854775807 := by unfold fdm; split <;> omega
  unfold floatToIntVal
  rw [fdm_scl h0 hf, hr]
  show (match (double.read (Fl.wd (Fl.sg b) r)).toInt .zero with | some n => _ | none => none) = _
  rw [htoi]
  exact if_pos hb1
theorem zero_int {b : Nat} (hb : b < 18446744073709551616) (h0 : Fl.rung b = 0) : floatToIntVal .f64 b .i64 = some 0 := by
  have hx := Fl.wd_parts hb
  rw [h0] at hx
  rw [← hx]
  cases Fl.sg b <;> decide +kernel
theorem fdy_digits {b : Nat} (h0 : Fl.rung b ≠ 0) (hf : Fl.rung b < Fl.INF) : dy (fdm b) (Fl.de b) = fdy b := by
  have key : ∀ s : Int, dy (s * (Fl.dm b : Int)) (Fl.de b) = dy (s * (Fl.mag (Fl.rung b) : Int)) (-1074) := by
    intro s
    unfold Fl.dm Fl.de
    by_cases h1 : Fl.rung b < 4503599627370496
    · rw [if_pos h1, if_pos h1]
      have hm : Fl.mag (Fl.rung b) = Fl.rung b := by unfold Fl.mag; rw [if_pos h1]
      rw [hm]
      generalize 52 - (Fl.rung b).log2 = j
      rw [Int.natCast_mul, Int.natCast_pow, ← Int.mul_assoc]
      have := dy_pow (s * (Fl.rung b : Int)) (-1074 - (j : Int)) j
      rw [show -1074 - (j : Int) + (j : Int) = -1074 by omega] at this
      exact this
    · rw [if_neg h1, if_neg h1, Fl.mag_parts, Int.natCast_mul, Int.natCast_pow, ← Int.mul_assoc]
      exact (dy_pow _ _ _).symm
  unfold fdy fdm Fl.val
  cases Fl.sg b
  · have := key 1
    simpa using this
  · have := key (-1)
    simpa using this
theorem fdy_zero {b : Nat} (h0 : Fl.rung b = 0) : fdy b = 0 := by
  unfold fdy Fl.val
  rw [h0, Fl.mag_zero]
  simp [dy_zero]
end Go.Proofs.YtbkbeglmfhaleaaGreatDoor
/-
Int and Of: a dyadic number of an int, of a float.
-/
set_option linter.unusedVariables false
namespace Go.Proofs.YtbkbeglmfhaleaaGreatDoor
open Go.RowKit
attribute [local go_sem ↓] Go.wp_at_zero Go.wp_at_succ

theorem wl_small {k : Int} (h0 : -9223372036854775808 ≤ k) (h1 : k ≤ 9223372036854775807) : wl k ≤ 1 := (wl_le k 1).2 (by rw [Nat.pow_one, Q_val]; omega)
set_option maxHeartbeats 1000000 in
theorem int_any (k : Int) (w : World) (h0 : -9223372036854775808 ≤ k) (h1 : k ≤ 9223372036854775807) (hg : Glob w) :
    Calls Tryz.prog 51 #[.int .i64 k] w (RetD (dy k 0) w) := by
  have HG := Lib.hid hg
  have HK := Lib.hid (wl_small h0 h1)
  clear hg
  go_enter Tryz.func51, Tryz.ntmps51
  go_wp2_with fail
  refine (wholeOf_any k _ h0 h1).mono ?_
  rintro e w1 ⟨A, n, c, rfl, hW, hb⟩
  have hB := (Blk.new w 37 #[.bool false, .slice none 0 0, .bool false, .slice none 0 0]).next hb
  have HB := Lib.hid hB
  have HW := Lib.hid hW
  have HBl := Lib.hid (((Below.refl w.heap.size w).alloc (Nat.le_refl _) _).trans (hb.mono (by simp)))
  clear hb hB hW
  go_wp2_with fail
  refine (canonical_any A n c k none 0 0 0 _ HW.out (Wh.zero _ _ _) (by have := HW.out.1; have := HK.out; omega) (by omega) (HG.out.below HBl.out)).mono ?_
  rintro e w2 ⟨A1, n1, c1, A2, n2, c2, rfl, hD, hb⟩
  have hB := HB.out.next hb
  have HB2 := Lib.hid hB
  have HD := Lib.hid hD
  have HBl2 := Lib.hid (HBl.out.trans (hb.mono HBl.out.size))
  obtain ⟨r0, r1, r2, r3, f0, f1, f2, f3⟩ := cells4 hB
  clear hb hB hD HB HBl
  go_wp2_with fail
  clear r0 r1 r2 r3 f0 f1 f2 f3
  obtain ⟨k0, k1, k2, k3, _⟩ := cells4 (Blk.store4 HB2.out (.bool (ng (mant (dy k 0)))) (.slice A1 n1 c1) (.bool (ng (expo (dy k 0)))) (.slice A2 n2 c2))
  exact bodyPost_ret (v := .agg #[.bool (ng (mant (dy k 0))), .slice A1 n1 c1, .bool (ng (expo (dy k 0))), .slice A2 n2 c2]) (by simp [results, Tryz.results51, go_sem, k0, k1, k2, k3]) rfl
    (RetD_def _ _ _ _ _ _ _ _ _ _ _ _ _ rfl rfl rfl rfl (Wh.store4 HD.out.1 HB2.out _ _ _ _) (Wh.store4 HD.out.2 HB2.out _ _ _ _) ((((HBl2.out.setCell (by simp) _).setCell (by simp) _).setCell (by simp) _).setCell (by simp) _))

/-- The call returned the dyadic number d, and that it is one. -/
def RetT (d : Dyadic) (r : Int) (w : World) (e : Ending) (w' : World) : Prop :=
  ∃ A n c A' n' c', e = .returned (.tuple #[.agg #[.bool (ng (mant d)), .slice A n c, .bool (ng (expo d)), .slice A' n' c'], .int .i64 r]) ∧ Dr w' A n c A' n' c' d ∧ Below w.heap.size w w'
theorem RetT_def (d : Dyadic) (r : Int) (w : World) (a a' : Bool) (A A' : Option Addr) (n c n' c' : Nat) (m e : Int) (w' : World) (hm : mant d = m) (he : expo d = e) (ha : a = ng m) (ha' : a' = ng e) (h : Wh w' A n c m) (h' : Wh w' A' n' c' e) (hb : Below w.heap.size w w') :
    RetT d r w (.returned (.tuple #[.agg #[.bool a, .slice A n c, .bool a', .slice A' n' c'], .int .i64 r])) w' := by
  subst ha ha' hm he; exact ⟨A, n, c, A', n', c', rfl, ⟨h, h'⟩, hb⟩

/-- Of at a float that isn't finite. -/
theorem of_none (b : Nat) (w : World) (hb : b < 18446744073709551616) (hf : Fl.fin b = false) :
    Calls Tryz.prog 30 #[.float .f64 b] w (RetT 0 8 w) := by
  have HF := Lib.hid hf
  clear hf
  go_enter Tryz.func30, Tryz.ntmps30
  go_wp2_with fail
  refine (finite_one _ _ b _ hb (by simp)).mono ?_
  rintro e w1 ⟨rfl, rfl⟩
  rw [HF.out]
  go_wp2_with fail
  have HB := ((Blk.new w 37 #[.bool false, .slice none 0 0, .bool false, .slice none 0 0]).alloc (.cells #[.float .f64 b] 44))
  obtain ⟨k0, k1, k2, k3, _⟩ := cells4 HB
  exact bodyPost_ret (v := .tuple #[.agg #[.bool false, .slice none 0 0, .bool false, .slice none 0 0], .int .i64 8]) (by simp [results, Tryz.results30, go_sem, k0, k1, k2, k3]) rfl
    (RetT_def 0 8 _ _ _ _ _ _ _ _ _ 0 0 _ rfl rfl rfl rfl (Wh.zero _ _ _) (Wh.zero _ _ _) ((((Below.refl w.heap.size w).alloc (Nat.le_refl _) _)).alloc (by simp) _))
/-- Of, the digits told. -/
theorem of_some (b : Nat) (x k : Int) (w : World) (hb : b < 18446744073709551616) (hf : Fl.fin b = true) (hx : expOf b = k + 52) (hk0 : -1126 ≤ k) (hk1 : k ≤ 971) (hc : floatToIntVal .f64 (Fl.scale b (-k)) .i64 = some x) (hx0 : -9223372036854775808 ≤ x) (hx1 : x ≤ 9223372036854775807) (hg : Glob w) :
    Calls Tryz.prog 30 #[.float .f64 b] w (RetT (dy x k) 0 w) := by
  have HF := Lib.hid hf
  have HG := Lib.hid hg
  have HK := Lib.hid (wl_small hx0 hx1)
  have HK2 := Lib.hid (wl_small (k := k) (by omega) (by omega))
  have hcv : ∀ w, (convert 44 3 (.float .f64 (Fl.scale b (-k)))).run Tryz.prog w = .ok (.int .i64 x) w := fun w => run_convert_float_int w 44 3 .f64 .i64 _ x (by rw [Tryz.underlying44]; rfl) Tryz.underlying3 hc
  have HX := Lib.hid hx
  clear hf hg hc hx
  go_enter Tryz.func30, Tryz.ntmps30
  go_wp2_with fail
  refine (finite_one _ _ b _ hb (by simp)).mono ?_
  rintro e w1 ⟨rfl, rfl⟩
  rw [HF.out]
  go_wp2_with fail
  refine (exp_any b _ hb).mono ?_
  rintro e w1 ⟨rfl, hb1⟩
  rw [HX.out]
  have hB := ((Blk.new w 37 #[.bool false, .slice none 0 0, .bool false, .slice none 0 0]).alloc (.cells #[.float .f64 b] 44)).next hb1
  have HB := Lib.hid hB
  have HBl := Lib.hid ((((Below.refl w.heap.size w).alloc (Nat.le_refl _) _).alloc (by simp) _).trans (hb1.mono (by simp; omega)))
  clear hb1 hB
  go_wp2_with fail
  refine (scale_any b (-k) _ hb).mono ?_
  rintro e w2 ⟨rfl, hb2⟩
  have HB1 := Lib.hid (HB.out.next hb2)
  have HBl1 := Lib.hid (HBl.out.trans (hb2.mono HBl.out.size))
  clear hb2
  go_wp2_with fail
  refine (wholeOf_any x _ hx0 hx1).mono ?_
  rintro e w3 ⟨A, n, c, rfl, hW, hb⟩
  have HB2 := Lib.hid (HB1.out.next hb)
  have HBl2 := Lib.hid (HBl1.out.trans (hb.mono HBl1.out.size))
  have HW := Lib.hid hW
  clear hb hW hcv
  go_wp2_with fail
  refine (wholeOf_any k _ (by omega) (by omega)).mono ?_
  rintro e w4 ⟨A', n', c', rfl, hW, hb⟩
  have HB3 := Lib.hid (HB2.out.next hb)
  have HBl3 := Lib.hid (HBl2.out.trans (hb.mono HBl2.out.size))
  have HW1 := Lib.hid (HW.out.below hb)
  have HW2 := Lib.hid hW
  clear hb hW
  go_wp2_with fail
  refine (canonical_any A n c x A' n' c' k _ HW1.out HW2.out (by have := HW1.out.1; have := HK.out; omega) (by have := HW2.out.1; have := HK2.out; omega) (HG.out.below HBl3.out)).mono ?_
  rintro e w5 ⟨A1, n1, c1, A2, n2, c2, rfl, hD, hb⟩
  have hB := HB3.out.next hb
  have HB4 := Lib.hid hB
  have HD := Lib.hid hD
  have HBl4 := Lib.hid (HBl3.out.trans (hb.mono HBl3.out.size))
  obtain ⟨r0, r1, r2, r3, f0, f1, f2, f3⟩ := cells4 hB
  clear hb hB hD
  go_wp2_with fail
  clear r0 r1 r2 r3 f0 f1 f2 f3
  obtain ⟨k0, k1, k2, k3, _⟩ := cells4 (Blk.store4 HB4.out (.bool (ng (mant (dy x k)))) (.slice A1 n1 c1) (.bool (ng (expo (dy x k)))) (.slice A2 n2 c2))
  exact bodyPost_ret (v := .tuple #[.agg #[.bool (ng (mant (dy x k))), .slice A1 n1 c1, .bool (ng (expo (dy x k))), .slice A2 n2 c2], .int .i64 0]) (by simp [results, Tryz.results30, go_sem, k0, k1, k2, k3]) rfl
    (RetT_def _ _ _ _ _ _ _ _ _ _ _ _ _ _ rfl rfl rfl rfl (Wh.store4 HD.out.1 HB4.out _ _ _ _) (Wh.store4 HD.out.2 HB4.out _ _ _ _) ((((HBl4.out.setCell (by simp) _).setCell (by simp) _).setCell (by simp) _).setCell (by simp) _))

/-- Of. -/
theorem of_any (b : Nat) (w : World) (hb : b < 18446744073709551616) (hg : Glob w) :
    Calls Tryz.prog 30 #[.float .f64 b] w (RetT (if Fl.fin b then fdy b else 0) (if Fl.fin b then 0 else 8) w) := by
  cases hf : Fl.fin b with
  | false => exact of_none b w hb hf
  | true =>
    have hlt : Fl.rung b < Fl.INF := of_decide_eq_true hf
    by_cases h0 : Fl.rung b = 0
    · have hs : Fl.scale b (-(-52)) = b := by unfold Fl.scale; rw [if_pos (.inl h0)]
      have := of_some b 0 (-52) w hb hf (by unfold expOf; rw [if_pos (.inl h0)]; omega) (by omega) (by omega) (by rw [hs]; exact zero_int hb h0) (by omega) (by omega) hg
      rw [dy_zero] at this
      rw [if_pos rfl, if_pos rfl, fdy_zero h0]
      exact this
    · have hd := Fl.dm_bounds h0
      have he := Fl.de_bounds hlt
      have hx : expOf b = Fl.de b + 52 := by rw [Fl.log_digits h0]; unfold expOf; rw [if_neg (by omega)]
      have hr : -9223372036854775808 ≤ fdm b ∧ fdm b ≤ 9223372036854775807 := by unfold fdm; split <;> omega
      have := of_some b (fdm b) (Fl.de b) w hb hf hx he.1 he.2 (fdm_int h0 hlt) hr.1 hr.2 hg
      rw [fdy_digits h0 hlt] at this
      rw [if_pos rfl, if_pos rfl]
      exact this
end Go.Proofs.YtbkbeglmfhaleaaGreatDoor
/-
Shift: a dyadic number times 2^k. Conditions: its exponent is within 10^18.
-/
set_option linter.unusedVariables false
namespace Go.Proofs.YtbkbeglmfhaleaaGreatDoor
open Go.RowKit
attribute [local go_sem ↓] Go.wp_at_zero Go.wp_at_succ

/-- How far a shift goes. -/
def far (k : Int) : Int := if k < -1048576 then -1048576 else if 1048576 < k then 1048576 else k
set_option maxHeartbeats 1000000 in
theorem shift_lo (A : Option Addr) (n c : Nat) (m : Int) (A' : Option Addr) (n' c' : Nat) (e k : Int) (D : Dyadic) (w : World) (k1 : k < -1048576)
    (HP : Hid (∀ (B : Option Addr) (k d : Nat) W, Below w.heap.size w W → Wh W B k d (-1048576) → Calls Tryz.prog 53 #[.agg #[.bool (ng e), .slice A' n' c'], .agg #[.bool (ng (-1048576)), .slice B k d]] W (RetW (e + -1048576) W)))
    (HO : Hid (∀ W, Calls Tryz.prog 55 #[.int .i64 (-1048576)] W (RetW (-1048576) W)))
    (HC : Hid (∀ (B : Option Addr) (k d : Nat) W, Below w.heap.size w W → Wh W B k d (e + -1048576) → Calls Tryz.prog 54 #[.agg #[.bool (ng m), .slice A n c], .agg #[.bool (ng (e + -1048576)), .slice B k d]] W (RetD D W))) :
    Calls Tryz.prog 21 #[.agg #[.bool (ng m), .slice A n c, .bool (ng e), .slice A' n' c'], .int .i64 k] w (RetD D w) := by
  go_enter Tryz.func21, Tryz.ntmps21
  go_wp2_with fail
  have HB := Lib.hid ((Blk.new w 37 #[.bool (ng m), .slice A n c, .bool (ng e), .slice A' n' c']).alloc (.cells #[.bool false, .slice none 0 0, .bool false, .slice none 0 0] 37))
  have hBd := Blk.new_ (w.alloc (.cells #[.bool (ng m), .slice A n c, .bool (ng e), .slice A' n' c'] 37)) 37 #[.bool false, .slice none 0 0, .bool false, .slice none 0 0] (w.heap.size + 1) (by simp)
  have HBl := Lib.hid (((Below.refl w.heap.size w).alloc (Nat.le_refl _) (.cells #[.bool (ng m), .slice A n c, .bool (ng e), .slice A' n' c'] 37)).alloc (by simp) (.cells #[.bool false, .slice none 0 0, .bool false, .slice none 0 0] 37))
  obtain ⟨c0, c1, c2, c3, _⟩ := cells4 HB.out
  go_region_held3 (fun w' => w'.cell? ⟨w.heap.size, 0, none⟩ = some (.bool (ng m)) ∧ w'.cell? ⟨w.heap.size, 1, none⟩ = some (.slice A n c) ∧ w'.cell? ⟨w.heap.size, 2, none⟩ = some (.bool (ng e)) ∧ w'.cell? ⟨w.heap.size, 3, none⟩ = some (.slice A' n' c') ∧ Below w.heap.size w w')
    (first | exact ⟨c0, c1, c2, c3, HBl.out.drew⟩ | exact held4c ‹_ ∧ _ ∧ _ ∧ _ ∧ Below w.heap.size w _› hbC | exact held4c ‹_ ∧ _ ∧ _ ∧ _ ∧ Below w.heap.size w _› hbP | exact held4c ‹_ ∧ _ ∧ _ ∧ _ ∧ Below w.heap.size w _› hbO | exact held4s ‹_ ∧ _ ∧ _ ∧ _ ∧ Below w.heap.size w _› _ (by omega) (by omega) (by omega) (by omega) (by omega) _ _ _ _)
    (first
      | (go_at_call 55; refine (HO.out _).mono ?_; rintro e1 wO ⟨BO, kO, dO, rfl, hWO, hbO⟩; have hBO := Blk.next (by assumption) hbO; obtain ⟨r0, r1, r2, r3, f0, f1, f2, f3⟩ := cells4 hBO; skip)
      | (go_at_call 53; refine (HP.out _ _ _ _ (‹_ ∧ _ ∧ _ ∧ _ ∧ Below w.heap.size w _›).2.2.2.2 (by exact hWO)).mono ?_; rintro e1 wP ⟨BP, kP, dP, rfl, hWP, hbP⟩; have hBP := Blk.next (by assumption) hbP; obtain ⟨r0, r1, r2, r3, f0, f1, f2, f3⟩ := cells4 hBP; skip)
      | (go_at_call 54; refine (HC.out _ _ _ _ (‹_ ∧ _ ∧ _ ∧ _ ∧ Below w.heap.size w _›).2.2.2.2 (by exact hWP)).mono ?_; rintro e1 wC ⟨A1, n1, c1, A2, n2, c2, rfl, hD, hbC⟩; have hBC := Blk.next (by assumption) hbC; obtain ⟨r0, r1, r2, r3, f0, f1, f2, f3⟩ := cells4 hBC; skip))
  go_wp2_with fail
  clear r0 r1 r2 r3 f0 f1 f2 f3
  obtain ⟨k0, k1, k2, k3, _⟩ := cells4 (Blk.store4 hBC (.bool (ng (mant D))) (.slice A1 n1 c1) (.bool (ng (expo D))) (.slice A2 n2 c2))
  exact bodyPost_ret (v := .agg #[.bool (ng (mant D)), .slice A1 n1 c1, .bool (ng (expo D)), .slice A2 n2 c2]) (by simp [results, Tryz.results21, go_sem, k0, k1, k2, k3]) rfl
    (RetD_def _ _ _ _ _ _ _ _ _ _ _ _ _ rfl rfl rfl rfl (Wh.store4 hD.1 hBC _ _ _ _) (Wh.store4 hD.2 hBC _ _ _ _) (‹_ ∧ _ ∧ _ ∧ _ ∧ Below w.heap.size w _›).2.2.2.2)

set_option maxHeartbeats 1000000 in
theorem shift_hi (A : Option Addr) (n c : Nat) (m : Int) (A' : Option Addr) (n' c' : Nat) (e k : Int) (D : Dyadic) (w : World) (k1 : 1048576 < k)
    (HP : Hid (∀ (B : Option Addr) (k d : Nat) W, Below w.heap.size w W → Wh W B k d (1048576) → Calls Tryz.prog 53 #[.agg #[.bool (ng e), .slice A' n' c'], .agg #[.bool (ng (1048576)), .slice B k d]] W (RetW (e + 1048576) W)))
    (HO : Hid (∀ W, Calls Tryz.prog 55 #[.int .i64 (1048576)] W (RetW (1048576) W)))
    (HC : Hid (∀ (B : Option Addr) (k d : Nat) W, Below w.heap.size w W → Wh W B k d (e + 1048576) → Calls Tryz.prog 54 #[.agg #[.bool (ng m), .slice A n c], .agg #[.bool (ng (e + 1048576)), .slice B k d]] W (RetD D W))) :
    Calls Tryz.prog 21 #[.agg #[.bool (ng m), .slice A n c, .bool (ng e), .slice A' n' c'], .int .i64 k] w (RetD D w) := by
  go_enter Tryz.func21, Tryz.ntmps21
  go_wp2_with fail
  have HB := Lib.hid ((Blk.new w 37 #[.bool (ng m), .slice A n c, .bool (ng e), .slice A' n' c']).alloc (.cells #[.bool false, .slice none 0 0, .bool false, .slice none 0 0] 37))
  have hBd := Blk.new_ (w.alloc (.cells #[.bool (ng m), .slice A n c, .bool (ng e), .slice A' n' c'] 37)) 37 #[.bool false, .slice none 0 0, .bool false, .slice none 0 0] (w.heap.size + 1) (by simp)
  have HBl := Lib.hid (((Below.refl w.heap.size w).alloc (Nat.le_refl _) (.cells #[.bool (ng m), .slice A n c, .bool (ng e), .slice A' n' c'] 37)).alloc (by simp) (.cells #[.bool false, .slice none 0 0, .bool false, .slice none 0 0] 37))
  obtain ⟨c0, c1, c2, c3, _⟩ := cells4 HB.out
  have kA : -1048576 ≤ k := by omega
  generalize hL : (1048576 : Int) = L at *
  have kB : ¬ k < -L := by omega
  clear hL
  go_region_held3 (fun w' => w'.cell? ⟨w.heap.size, 0, none⟩ = some (.bool (ng m)) ∧ w'.cell? ⟨w.heap.size, 1, none⟩ = some (.slice A n c) ∧ w'.cell? ⟨w.heap.size, 2, none⟩ = some (.bool (ng e)) ∧ w'.cell? ⟨w.heap.size, 3, none⟩ = some (.slice A' n' c') ∧ Below w.heap.size w w')
    (first | exact ⟨c0, c1, c2, c3, HBl.out.drew⟩ | exact held4c ‹_ ∧ _ ∧ _ ∧ _ ∧ Below w.heap.size w _› hbC | exact held4c ‹_ ∧ _ ∧ _ ∧ _ ∧ Below w.heap.size w _› hbP | exact held4c ‹_ ∧ _ ∧ _ ∧ _ ∧ Below w.heap.size w _› hbO | exact held4s ‹_ ∧ _ ∧ _ ∧ _ ∧ Below w.heap.size w _› _ (by omega) (by omega) (by omega) (by omega) (by omega) _ _ _ _)
    (first
      | (go_at_call 55; refine (HO.out _).mono ?_; rintro e1 wO ⟨BO, kO, dO, rfl, hWO, hbO⟩; have hBO := Blk.next (by assumption) hbO; obtain ⟨r0, r1, r2, r3, f0, f1, f2, f3⟩ := cells4 hBO; skip)
      | (go_at_call 53; refine (HP.out _ _ _ _ (‹_ ∧ _ ∧ _ ∧ _ ∧ Below w.heap.size w _›).2.2.2.2 (by exact hWO)).mono ?_; rintro e1 wP ⟨BP, kP, dP, rfl, hWP, hbP⟩; have hBP := Blk.next (by assumption) hbP; obtain ⟨r0, r1, r2, r3, f0, f1, f2, f3⟩ := cells4 hBP; skip)
      | (go_at_call 54; refine (HC.out _ _ _ _ (‹_ ∧ _ ∧ _ ∧ _ ∧ Below w.heap.size w _›).2.2.2.2 (by exact hWP)).mono ?_; rintro e1 wC ⟨A1, n1, c1, A2, n2, c2, rfl, hD, hbC⟩; have hBC := Blk.next (by assumption) hbC; obtain ⟨r0, r1, r2, r3, f0, f1, f2, f3⟩ := cells4 hBC; skip))
  go_wp2_with fail
  clear r0 r1 r2 r3 f0 f1 f2 f3
  obtain ⟨k0, k1, k2, k3, _⟩ := cells4 (Blk.store4 hBC (.bool (ng (mant D))) (.slice A1 n1 c1) (.bool (ng (expo D))) (.slice A2 n2 c2))
  exact bodyPost_ret (v := .agg #[.bool (ng (mant D)), .slice A1 n1 c1, .bool (ng (expo D)), .slice A2 n2 c2]) (by simp [results, Tryz.results21, go_sem, k0, k1, k2, k3]) rfl
    (RetD_def _ _ _ _ _ _ _ _ _ _ _ _ _ rfl rfl rfl rfl (Wh.store4 hD.1 hBC _ _ _ _) (Wh.store4 hD.2 hBC _ _ _ _) (‹_ ∧ _ ∧ _ ∧ _ ∧ Below w.heap.size w _›).2.2.2.2)

set_option maxHeartbeats 1000000 in
theorem shift_mid (A : Option Addr) (n c : Nat) (m : Int) (A' : Option Addr) (n' c' : Nat) (e k : Int) (D : Dyadic) (w : World) (k1 : -1048576 ≤ k) (k2 : k ≤ 1048576)
    (HP : Hid (∀ (B : Option Addr) (kk d : Nat) W, Below w.heap.size w W → Wh W B kk d k → Calls Tryz.prog 53 #[.agg #[.bool (ng e), .slice A' n' c'], .agg #[.bool (ng k), .slice B kk d]] W (RetW (e + k) W)))
    (HO : Hid (∀ W, Calls Tryz.prog 55 #[.int .i64 k] W (RetW k W)))
    (HC : Hid (∀ (B : Option Addr) (kk d : Nat) W, Below w.heap.size w W → Wh W B kk d (e + k) → Calls Tryz.prog 54 #[.agg #[.bool (ng m), .slice A n c], .agg #[.bool (ng (e + k)), .slice B kk d]] W (RetD D W))) :
    Calls Tryz.prog 21 #[.agg #[.bool (ng m), .slice A n c, .bool (ng e), .slice A' n' c'], .int .i64 k] w (RetD D w) := by
  go_enter Tryz.func21, Tryz.ntmps21
  go_wp2_with fail
  have HB := Lib.hid ((Blk.new w 37 #[.bool (ng m), .slice A n c, .bool (ng e), .slice A' n' c']).alloc (.cells #[.bool false, .slice none 0 0, .bool false, .slice none 0 0] 37))
  have hBd := Blk.new_ (w.alloc (.cells #[.bool (ng m), .slice A n c, .bool (ng e), .slice A' n' c'] 37)) 37 #[.bool false, .slice none 0 0, .bool false, .slice none 0 0] (w.heap.size + 1) (by simp)
  have HBl := Lib.hid (((Below.refl w.heap.size w).alloc (Nat.le_refl _) (.cells #[.bool (ng m), .slice A n c, .bool (ng e), .slice A' n' c'] 37)).alloc (by simp) (.cells #[.bool false, .slice none 0 0, .bool false, .slice none 0 0] 37))
  obtain ⟨c0, c1, c2, c3, _⟩ := cells4 HB.out
  have kA : -1048576 ≤ k := by omega
  generalize hL : (1048576 : Int) = L at *
  have kB : ¬ k < -L := by omega
  have kC : ¬ L < k := by omega
  clear hL
  go_region_held3 (fun w' => w'.cell? ⟨w.heap.size, 0, none⟩ = some (.bool (ng m)) ∧ w'.cell? ⟨w.heap.size, 1, none⟩ = some (.slice A n c) ∧ w'.cell? ⟨w.heap.size, 2, none⟩ = some (.bool (ng e)) ∧ w'.cell? ⟨w.heap.size, 3, none⟩ = some (.slice A' n' c') ∧ Below w.heap.size w w')
    (first | exact ⟨c0, c1, c2, c3, HBl.out.drew⟩ | exact held4c ‹_ ∧ _ ∧ _ ∧ _ ∧ Below w.heap.size w _› hbC | exact held4c ‹_ ∧ _ ∧ _ ∧ _ ∧ Below w.heap.size w _› hbP | exact held4c ‹_ ∧ _ ∧ _ ∧ _ ∧ Below w.heap.size w _› hbO | exact held4s ‹_ ∧ _ ∧ _ ∧ _ ∧ Below w.heap.size w _› _ (by omega) (by omega) (by omega) (by omega) (by omega) _ _ _ _)
    (first
      | (go_at_call 55; refine (HO.out _).mono ?_; rintro e1 wO ⟨BO, kO, dO, rfl, hWO, hbO⟩; have hBO := Blk.next (by assumption) hbO; obtain ⟨r0, r1, r2, r3, f0, f1, f2, f3⟩ := cells4 hBO; skip)
      | (go_at_call 53; refine (HP.out _ _ _ _ (‹_ ∧ _ ∧ _ ∧ _ ∧ Below w.heap.size w _›).2.2.2.2 (by exact hWO)).mono ?_; rintro e1 wP ⟨BP, kP, dP, rfl, hWP, hbP⟩; have hBP := Blk.next (by assumption) hbP; obtain ⟨r0, r1, r2, r3, f0, f1, f2, f3⟩ := cells4 hBP; skip)
      | (go_at_call 54; refine (HC.out _ _ _ _ (‹_ ∧ _ ∧ _ ∧ _ ∧ Below w.heap.size w _›).2.2.2.2 (by exact hWP)).mono ?_; rintro e1 wC ⟨A1, n1, c1, A2, n2, c2, rfl, hD, hbC⟩; have hBC := Blk.next (by assumption) hbC; obtain ⟨r0, r1, r2, r3, f0, f1, f2, f3⟩ := cells4 hBC; skip))
  go_wp2_with fail
  clear r0 r1 r2 r3 f0 f1 f2 f3
  obtain ⟨k0, k1, k2, k3, _⟩ := cells4 (Blk.store4 hBC (.bool (ng (mant D))) (.slice A1 n1 c1) (.bool (ng (expo D))) (.slice A2 n2 c2))
  exact bodyPost_ret (v := .agg #[.bool (ng (mant D)), .slice A1 n1 c1, .bool (ng (expo D)), .slice A2 n2 c2]) (by simp [results, Tryz.results21, go_sem, k0, k1, k2, k3]) rfl
    (RetD_def _ _ _ _ _ _ _ _ _ _ _ _ _ rfl rfl rfl rfl (Wh.store4 hD.1 hBC _ _ _ _) (Wh.store4 hD.2 hBC _ _ _ _) (‹_ ∧ _ ∧ _ ∧ _ ∧ Below w.heap.size w _›).2.2.2.2)

theorem shift_any (A : Option Addr) (n c : Nat) (m : Int) (A' : Option Addr) (n' c' : Nat) (e k : Int) (w : World) (h : Wh w A n c m) (h' : Wh w A' n' c' e) (hn : n ≤ 137438953472) (he : e.natAbs ≤ 1000000000000000000) (hg : Glob w) :
    Calls Tryz.prog 21 #[.agg #[.bool (ng m), .slice A n c, .bool (ng e), .slice A' n' c'], .int .i64 k] w (RetD (dy m (e + far k)) w) := by
  have hwe : wl e ≤ 1 := wl_small (by omega) (by omega)
  have key : ∀ K : Int, -1048576 ≤ K → K ≤ 1048576 →
      Hid (∀ (B : Option Addr) (kk d : Nat) W, Below w.heap.size w W → Wh W B kk d K → Calls Tryz.prog 53 #[.agg #[.bool (ng e), .slice A' n' c'], .agg #[.bool (ng K), .slice B kk d]] W (RetW (e + K) W)) ∧
      Hid (∀ W, Calls Tryz.prog 55 #[.int .i64 K] W (RetW K W)) ∧
      Hid (∀ (B : Option Addr) (kk d : Nat) W, Below w.heap.size w W → Wh W B kk d (e + K) → Calls Tryz.prog 54 #[.agg #[.bool (ng m), .slice A n c], .agg #[.bool (ng (e + K)), .slice B kk d]] W (RetD (dy m (e + K)) W)) := by
    intro K h0 h1
    have hwk : wl K ≤ 1 := wl_small (by omega) (by omega)
    have hws : wl (e + K) ≤ 1 := wl_small (by omega) (by omega)
    exact ⟨Lib.hid fun B kk d W hb hw => plus_any A' n' c' e B kk d K W (h'.below hb) hw (by omega) (by omega),
      Lib.hid fun W => wholeOf_any K W (by omega) (by omega),
      Lib.hid fun B kk d W hb hw => canonical_any A n c m B kk d (e + K) W (h.below hb) hw hn (by rw [hw.1]; omega) (hg.below hb)⟩
  unfold far
  split
  · rename_i hk
    obtain ⟨a, b, d⟩ := key (-1048576) (by omega) (by omega)
    exact shift_lo A n c m A' n' c' e k _ w hk a b d
  · split
    · rename_i hk hk2
      obtain ⟨a, b, d⟩ := key 1048576 (by omega) (by omega)
      exact shift_hi A n c m A' n' c' e k _ w hk2 a b d
    · obtain ⟨a, b, d⟩ := key k (by omega) (by omega)
      exact shift_mid A n c m A' n' c' e k _ w (by omega) (by omega) a b d
end Go.Proofs.YtbkbeglmfhaleaaGreatDoor
